/- The walk of the reference's unit (layer 16). -/
import Derived.Test.YtgoibhbmndpgpaaGreatDoorRefClsA
import Derived.BigQuiet
import Derived.Deep.DeepCutAuto
set_option maxRecDepth 100000
set_option linter.unusedVariables false
set_option linter.unusedSimpArgs false
namespace Go.Proofs.YtgoibhbmndpgpaaGreatDoor
open Go.RowKit Go.Sort Dc
attribute [local go_sem ↓] Go.wp_at_zero Go.wp_at_succ

set_option maxHeartbeats 16000000 in
theorem runit_calls (h : Hd) (w : World) (hn : h.n.length ≤ maxLen) (hu : h.u.length ≤ maxLen) :
    Calls Tryz.prog 38 #[.agg #[.string (str h.n), .int .i64 h.k, .string (str h.u), .string (str h.h)]] w fun e w' => e = .returned (.bool (Kl.unit h.n h.u)) ∧ Below w.heap.size w w' := by
  obtain ⟨n, k, u, hh⟩ := h
  simp only at hn hu ⊢
  have hsu := str_size u
  have hsn := str_size n
  unfold maxLen at hn hu
  have k0 := kp_alloc (Below.refl w.heap.size w) (.cells #[.string (str n), .int .i64 k, .string (str u), .string (str hh)] 36)
  have N0 := heap_alloc_new w (.cells #[.string (str n), .int .i64 k, .string (str u), .string (str hh)] 36)
  go_enter Tryz.func38, Tryz.ntmps38
  go_upto_region 1 with fail
  generalize w.alloc (.cells #[.string (str n), .int .i64 k, .string (str u), .string (str hh)] 36) = W at *
  have c0 : W.cell? ⟨w.heap.size, 0, none⟩ = some (.string (str n)) := by rw [cell_of_row W _ 0 _ _ _ N0]; rfl
  have c2 : W.cell? ⟨w.heap.size, 2, none⟩ = some (.string (str u)) := by rw [cell_of_row W _ 2 _ _ _ N0]; rfl
  have K0 := Lib.hid k0
  clear k0 N0
  go_wp2_with fail
  go_loop [3] (fun v => ∃ j : Nat, j ≤ u.length ∧ v = .int .i64 (j : Nat) ∧ Hid (∀ y ∈ u.take j, Kl.ub y = true)) (fun v => u.length - (intOf v).toNat)
  case atStart => exact ⟨0, Nat.zero_le _, rfl, Lib.hid (fun y hy => by cases hy)⟩
  case round =>
    obtain ⟨j, hj, rfl, H⟩ := hrel
    by_cases h : j < u.length
    · have hin : j < (str u).size := by rw [hsu]; exact h
      have hL := Lib.hid (fun W => rletter_calls ((str u)[j]'hin) W)
      have hD := Lib.hid (fun W => rdigit_calls ((str u)[j]'hin) W)
      have hno := Lib.hid (fun (e : Kl.ub ((str u)[j]'hin) = false) => show Kl.unit n u = false from by unfold Kl.unit; rw [Lg.all_no (List.getElem_mem h) (show Kl.ub u[j] = false from e)]; rfl)
      have hyes := Lib.hid (fun (e : Kl.ub ((str u)[j]'hin) = true) => Lg.all_take (P := fun y => Kl.ub y = true) H.out (List.getElem?_eq_getElem h) (show Kl.ub u[j] = true from e))
      cases e1 : Ch.letter ((str u)[j]'hin)
      rotate_left
      · rw [e1] at hL
        have hn2 := Lib.hid (hyes.out (by unfold Kl.ub; rw [e1]; rfl))
        clear hno hyes hD
        go_wp2_with fail
        refine (hL.out _).mono ?_; rintro e w1 ⟨rfl, rfl⟩
        go_wp2
        go_round
        case rel => exact ⟨j + 1, h, by go_num, hn2.out⟩
        case measure => simp [intOf]; omega
      rw [e1] at hL
      cases e2 : Ch.digit ((str u)[j]'hin)
      rotate_left
      · rw [e2] at hD
        have hn2 := Lib.hid (hyes.out (by unfold Kl.ub; rw [e1, e2]; rfl))
        clear hno hyes
        go_wp2_with fail
        refine (hL.out _).mono ?_; rintro e w1 ⟨rfl, rfl⟩
        go_wp2_with fail
        refine (hD.out _).mono ?_; rintro e w1 ⟨rfl, rfl⟩
        go_wp2
        go_round
        case rel => exact ⟨j + 1, h, by go_num, hn2.out⟩
        case measure => simp [intOf]; omega
      rw [e2] at hD
      by_cases a : ((str u)[j].toNat : Int) = 95
      · have hn2 := Lib.hid (hyes.out (by unfold Kl.ub; rw [e1, e2, decide_eq_true (show ((str u)[j]'hin).toNat = 95 by omega)]; rfl))
        have d1 : decide (((str u)[j].toNat : Int) = 95) = true := decide_eq_true a
        have b1 : (((str u)[j].toNat : Int) != 95) = false := by simp [a]
        clear hno hyes a
        go_wp2_with fail
        refine (hL.out _).mono ?_; rintro e w1 ⟨rfl, rfl⟩
        go_wp2_with fail
        refine (hD.out _).mono ?_; rintro e w1 ⟨rfl, rfl⟩
        go_wp2
        go_round
        case rel => exact ⟨j + 1, h, by go_num, hn2.out⟩
        case measure => simp [intOf]; omega
      have d1 : decide (((str u)[j].toNat : Int) = 95) = false := decide_eq_false a
      have b1 : (((str u)[j].toNat : Int) != 95) = true := by simp [a]
      by_cases b : ((str u)[j].toNat : Int) = 58
      · have hn2 := Lib.hid (hyes.out (by unfold Kl.ub; rw [e1, e2, decide_eq_true (show ((str u)[j]'hin).toNat = 58 by omega)]; simp))
        have d2 : decide (((str u)[j].toNat : Int) = 58) = true := decide_eq_true b
        have b2 : (((str u)[j].toNat : Int) != 58) = false := by simp [b]
        clear hno hyes a b
        go_wp2_with fail
        refine (hL.out _).mono ?_; rintro e w1 ⟨rfl, rfl⟩
        go_wp2_with fail
        refine (hD.out _).mono ?_; rintro e w1 ⟨rfl, rfl⟩
        go_wp2
        go_round
        case rel => exact ⟨j + 1, h, by go_num, hn2.out⟩
        case measure => simp [intOf]; omega
      have d2 : decide (((str u)[j].toNat : Int) = 58) = false := decide_eq_false b
      have b2 : (((str u)[j].toNat : Int) != 58) = true := by simp [b]
      have hr := Lib.hid (hno.out (by unfold Kl.ub; rw [e1, e2, decide_eq_false (show ¬ ((str u)[j]'hin).toNat = 95 by omega), decide_eq_false (show ¬ ((str u)[j]'hin).toNat = 58 by omega)]; rfl))
      clear hno hyes a b
      go_wp2_with fail
      refine (hL.out _).mono ?_; rintro e w1 ⟨rfl, rfl⟩
      go_wp2_with fail
      refine (hD.out _).mono ?_; rintro e w1 ⟨rfl, rfl⟩
      go_wp2
      go_ret
      exact ⟨by rw [hr.out]; rfl, by first | exact K0.out | exact below_drewN K0.out _⟩
    · have hv := Lib.hid (show Kl.unit n u = (decide (u = []) || (decide (u.length + 1 ≤ n.length) && decide (n.drop (n.length - u.length - 1) = 95 :: u))) from by unfold Kl.unit; rw [Lg.all_yes (Lg.all_full H.out (by omega))]; rfl)
      clear H
      have t1 : IntKind.i64.wrap ((n.length : Int) - (u.length : Int)) = (n.length : Int) - (u.length : Int) := IntWalk.i64_in _ (by omega)
      have hjl : (j : Int) = (u.length : Int) := by omega
      by_cases hu0 : u = []
      · have b0 : (u == []) = true := by rw [hu0]; rfl
        have hr := Lib.hid (show Kl.unit n u = true by rw [hv.out, decide_eq_true hu0]; rfl)
        clear hv hu0
        go_upto_region 8 with fail
        go_quiet (fail)
        go_wp2
        go_ret
        exact ⟨by rw [hr.out]; rfl, by first | exact K0.out | exact below_drewN K0.out _⟩
      have b0 : (u == []) = false := beq_eq_false_iff_ne.2 hu0
      by_cases hl : u.length + 1 ≤ n.length
      rotate_left
      · have d0 : decide ((1 : Int) ≤ (n.length : Int) - (u.length : Int)) = false := decide_eq_false (by omega)
        have hr := Lib.hid (show Kl.unit n u = false by rw [hv.out, decide_eq_false hu0, decide_eq_false hl]; rfl)
        clear hv hu0
        go_upto_region 8 with fail
        go_quiet (fail)
        go_wp2
        go_ret
        exact ⟨by rw [hr.out]; rfl, by first | exact K0.out | exact below_drewN K0.out _⟩
      obtain ⟨i, hi⟩ : ∃ i : Nat, n.length = u.length + 1 + i := ⟨n.length - u.length - 1, by omega⟩
      have hij : n.length - u.length - 1 = i := by omega
      have hini : i < (str n).size := by rw [hsn]; omega
      have t2 : (n.length : Int) - (u.length : Int) = (i : Int) + 1 := by omega
      have t3 : IntKind.i64.wrap ((i : Int) + 1) = (i : Int) + 1 := IntWalk.i64_in _ (by omega)
      have t4 : IntKind.i64.wrap ((i : Int) + 1 - 1) = (i : Int) := by rw [show (i : Int) + 1 - 1 = (i : Int) by omega]; exact IntWalk.i64_in _ (by omega)
      have d0 : decide ((1 : Int) ≤ (i : Int) + 1) = true := decide_eq_true (by omega)
      have q0 : (0 : Int) ≤ (i : Int) := by omega
      have q1 : (i : Int) < (n.length : Int) := by omega
      have hdr : n.drop i = (str n)[i]'hini :: n.drop (i + 1) := List.drop_eq_getElem_cons (by omega)
      have hsl : ∀ W, (Instr.slice 9 (.string (str n)) (some (.int .i64 ((i : Int) + 1))) none none).run Tryz.prog W = .ok (.string (str (n.drop (i + 1)))) W := fun W => cut_from n _ (i + 1) (by omega) (by omega) W
      by_cases a : ((str n)[i].toNat : Int) = 95
      rotate_left
      · have d1 : decide (((str n)[i].toNat : Int) = 95) = false := decide_eq_false a
        have b1 : (((str n)[i].toNat : Int) == 95) = false := beq_eq_false_iff_ne.2 a
        have hr := Lib.hid (show Kl.unit n u = false by
          rw [hv.out, hij, hdr, decide_eq_false hu0, decide_eq_false (show ¬ (str n)[i] :: n.drop (i + 1) = 95 :: u from fun e => a (by rw [(List.cons.inj e).1]; rfl))]
          simp)
        clear hv hu0 hdr hi hij a
        go_upto_region 8 with fail
        go_quiet (fail)
        go_wp2
        go_ret
        exact ⟨by rw [hr.out]; rfl, by first | exact K0.out | exact below_drewN K0.out _⟩
      have d1 : decide (((str n)[i].toNat : Int) = 95) = true := decide_eq_true a
      have b1 : (((str n)[i].toNat : Int) == 95) = true := beq_iff_eq.2 a
      have ha : (str n)[i] = 95 := UInt8.toNat_inj.1 (by show (str n)[i].toNat = 95; omega)
      have hr := Lib.hid (show Kl.unit n u = (n.drop (i + 1) == u) by
        rw [hv.out, hij, hdr, ha, decide_eq_false hu0, decide_eq_true hl]
        by_cases e : n.drop (i + 1) = u
        · rw [e]; simp
        · rw [decide_eq_false (fun k => e (List.cons.inj k).2), beq_eq_false_iff_ne.2 e]; rfl)
      clear hv hu0 hdr ha hi hij a
      generalize n.drop (i + 1) = m at *
      go_upto_region 8 with fail
      go_quiet (fail)
      go_wp2
      go_ret
      exact ⟨by rw [hr.out]; rfl, by first | exact K0.out | exact below_drewN K0.out _⟩

end Go.Proofs.YtgoibhbmndpgpaaGreatDoor
