/- The walk of the law SpotTells. -/
import Derived.Test.YtpejphfggfppdaaSpotK
import Derived.Test.YtpejphfggfppdaaSpotRow
import Derived.Test.YtpejphfggfppdaaRefSpotA
import Derived.Deep.QuietTactic
import Derived.BigQuiet
import Derived.Deep.DeepCutAuto
namespace Go.Proofs.Ytpejphfggfppdaa
open Go.RowKit
attribute [local go_sem ↓] Go.wp_at_zero Go.wp_at_succ

set_option maxHeartbeats 2000000 in
set_option maxRecDepth 100000 in
theorem tells_walk (s : ByteArray) (off code : Int) (v : Value) (n : Nat) (fs : Nat → Ft) (w : World) (hv : FtRow w v n fs) :
    Calls Try.prog 3 #[.string s, .int .i64 off, .int .i64 code, v] w fun e w' => e = .returned (.bool true) ∧ Below w.heap.size w w' := by
  have Hv := Lib.hid hv
  obtain ⟨a, cap, rfl, hnc, hcm, hcell⟩ := hv
  unfold maxLen at hcm
  by_cases hs : s.size ≤ 300
  · by_cases hn : n ≤ 20
    · have ds : decide ((300 : Int) < (s.size : Int)) = false := by simp; omega
      have dn : decide ((20 : Int) < (n : Int)) = false := by simp; omega
      have oc := fun i W => of_calls s i W (by omega)
      have orf := fun i W => refSpot_calls s i W (by omega)
      have ac := fun i W => at_calls code s i W (by omega)
      have arf := fun i W => refFault_calls code s i W (by omega)
      have gc := fun f W => good_calls f s W (by omega)
      have rf := fun c i W => refFault_calls c s i W (by omega)
      have Oc := Lib.hid oc
      have Orf := Lib.hid orf
      have Ac := Lib.hid ac
      have Arf := Lib.hid arf
      have Gc := Lib.hid gc
      have Rf := Lib.hid rf
      have Hcell := Lib.hid hcell
      clear oc orf ac arf gc rf hcell
      go_enter Try.func3, Try.ntmps3
      go_wp2_with fail
      refine (known_calls _).mono ?_; rintro e w1 ⟨rfl, b1⟩
      go_wp2_with fail
      obtain ⟨W1, hW1⟩ : ∃ W1 : World, W1 = w1.alloc (.cells #[.int .i64 off, .int .i64 0, .int .i64 ((s.size : Int) / 2), .int .i64 s.size] 3) := ⟨_, rfl⟩
      rw [← hW1]
      have bW : Below w.heap.size w W1 := by rw [hW1]; exact b1.alloc b1.size _
      have cW : ∀ j, j < 4 → ∃ x : Int, W1.cell? ⟨w1.heap.size, j, none⟩ = some (.int .i64 x) := fun j hj => by
        rw [hW1]
        rcases (by omega : j = 0 ∨ j = 1 ∨ j = 2 ∨ j = 3) with rfl | rfl | rfl | rfl
        · exact ⟨off, by simp⟩
        · exact ⟨0, by simp⟩
        · exact ⟨(s.size : Int) / 2, by simp⟩
        · exact ⟨s.size, by simp⟩
      have hz1 : w1.heap.size < W1.heap.size := by rw [hW1]; simp
      have CW := Lib.hid cW
      clear cW hW1
      go_loopw [31] (fun i wr => ∃ j : Nat, j ≤ 4 ∧ i = .int .i64 j ∧ Below W1.heap.size W1 wr) (fun i _ => 4 - (intOf i).toNat)
      case atStart => exact ⟨0, by omega, rfl, Below.refl _ _⟩
      case round =>
        obtain ⟨j, hj, rfl, hb⟩ := hrel
        by_cases hj4 : j < 4
        · obtain ⟨x, hx⟩ := CW.out j hj4
          have cj : wr.cell? ⟨w1.heap.size, j, none⟩ = some (.int .i64 x) := (hb.cell hz1).trans hx
          have oc := Oc.out x; have orf := Orf.out x; have ac := Ac.out x; have arf := Arf.out x
          have en := fun W => neq_spot (Sp.off s x) (Sp.line s x) (Sp.col s x) (Sp.off s x) (Sp.line s x) (Sp.col s x) W
          have ef := fun W => neq_fault (Sp.at code s x) (Sp.at code s x) W
          rw [decide_eq_true rfl] at ef
          rw [decide_eq_true (by exact ⟨rfl, rfl, rfl⟩)] at en
          generalize (Sp.off s x : Int) = xo at *
          generalize (Sp.line s x : Int) = xl at *
          generalize (Sp.col s x : Int) = xc at *
          generalize Sp.at code s x = X at *
          have oc1 := Lib.hid oc; have orf1 := Lib.hid orf; have ac1 := Lib.hid ac; have arf1 := Lib.hid arf
          clear oc orf ac arf hx
          go_wp2_with fail
          refine (oc1.out _).mono ?_; rintro e w2 ⟨rfl, b2⟩
          go_wp2_with fail
          refine (orf1.out _).mono ?_; rintro e w3 ⟨rfl, b3⟩
          go_wp2_with fail
          refine (ac1.out _).mono ?_; rintro e w4 ⟨rfl, b4⟩
          go_wp2_with fail
          refine (arf1.out _).mono ?_; rintro e w5 ⟨rfl, b5⟩
          go_wp2
          go_roundw
          case rel => exact ⟨j + 1, by omega, by go_num, trans9 (trans9 (trans9 (trans9 hb b2) b3) b4) b5⟩
          case measure => simp [intOf]; omega
        · obtain rfl : j = 4 := by omega
          rw [show (((4 : Nat) : Int)) = 4 from rfl]
          have bU := kb_call bW (Nat.le_refl _) hb
          go_wp2_with fail
          obtain ⟨U, hU⟩ : ∃ U : World, U = wr.alloc (.cells #[.int .i64 0, .int .i64 0, .int .i64 0, .int .i64 0] 30) := ⟨_, rfl⟩
          rw [← hU]
          have xU : FtAt U wr.heap.size Ft.zero := by rw [hU]; exact FtAt.new wr Ft.zero _
          have bU2 : Below wr.heap.size wr U := by rw [hU]; exact (Below.refl _ _).alloc (Nat.le_refl _) _
          have BU := Lib.hid bU
          have BU2 := Lib.hid bU2
          have XU := Lib.hid xU
          clear hU bU bU2 xU hb b1 bW hz1 CW Oc Orf Ac Arf
          generalize hB : wr.heap.size = B at *
          have HB := Lib.hid hB
          clear hB
          go_loopw [12] (fun i x => ∃ j : Nat, j ≤ n ∧ i = .int .i64 j ∧ Hid (Below w.heap.size w x ∧ FtAt x B (Ft.first fs j))) (fun i _ => n - (intOf i).toNat)
          case atStart => exact ⟨0, by omega, rfl, kb_call BU.out (Nat.le_refl _) (by rw [HB.out]; exact BU2.out), XU.out⟩
          case round =>
            obtain ⟨j, hj, rfl, H⟩ := hrel
            by_cases hjn : j < n
            · obtain ⟨b, o, rfl, hbs, hcs⟩ := Hcell.out (by omega)
              obtain ⟨hb, hA⟩ := H.out
              obtain ⟨e0, e1, e2, e3⟩ := hcs j hjn
              have q0 : ∀ X, Below w.heap.size w X → X.cell? ⟨b, o + j * 4, none⟩ = some (.int .i64 (fs j).c) := fun X hX => (hX.cell hbs).trans e0
              have q1 : ∀ X, Below w.heap.size w X → X.cell? ⟨b, o + j * 4 + 1, none⟩ = some (.int .i64 (fs j).o) := fun X hX => (hX.cell hbs).trans e1
              have q2 : ∀ X, Below w.heap.size w X → X.cell? ⟨b, o + j * 4 + 2, none⟩ = some (.int .i64 (fs j).l) := fun X hX => (hX.cell hbs).trans e2
              have q3 : ∀ X, Below w.heap.size w X → X.cell? ⟨b, o + j * 4 + 3, none⟩ = some (.int .i64 (fs j).k) := fun X hX => (hX.cell hbs).trans e3
              have hj0 : (0 : Int) ≤ (j : Int) := by omega
              have hj1 : (j : Int) < (n : Int) := by omega
              have hst : Ft.first fs (j + 1) = (Ft.first fs j).step (fs j) := rfl
              have gc := fun W => Gc.out (fs j) W
              have rf := fun W => Rf.out (fs j).c (fs j).o W
              have ef := fun W => eql_fault (fs j) (Sp.at (fs j).c s (fs j).o) W
              generalize Sp.at (fs j).c s (fs j).o = X at *
              generalize decide (fs j = X) = g at *
              generalize Ft.first fs j = A at *
              generalize fs j = F at *
              have Hst := Lib.hid hst
              have Gc1 := Lib.hid gc
              have Rf1 := Lib.hid rf
              have Ef := Lib.hid ef
              obtain ⟨lA, A0, A1, A2, A3, fA⟩ := id hA
              have HA := Lib.hid hA
              have f0 := q0 _ hb; have f1 := q1 _ hb; have f2 := q2 _ hb; have f3 := q3 _ hb
              have Q := Lib.hid (And.intro q0 (And.intro q1 (And.intro q2 q3)))
              clear hst gc rf ef hA hcs e0 e1 e2 e3 q0 q1 q2 q3
              by_cases hc : F.c = 0
              · have dc : (F.c == 0) = true := by simpa using hc
                have dc2 : (F.c != 0) = false := by simpa using hc
                have hs2 : A.step F = A := by unfold Ft.step; rw [if_pos hc]
                have Hs2 := Lib.hid hs2
                clear hs2 hc
                have HH := Lib.hid hb
                go_wp2_with fail
                go_quiet (fail)
                have hbV := below_drewN HH.out nq
                have hAV : FtAt (wr.drewN nq) B (A.step F) := by rw [Hs2.out]; exact HA.out.below (below_drewN (Below.refl _ _) nq) lA
                obtain ⟨V, hV⟩ : ∃ V : World, V = wr.drewN nq := ⟨_, rfl⟩
                go_upto_region 17 with fail
                rw [← hV] at hbV hAV ⊢
                clear hV f0 f1 f2 f3 A0 A1 A2 A3 fA
                have p0 : ∀ Y, Below V.heap.size V Y → Y.cell? ⟨b, o + j * 4, none⟩ = some (.int .i64 F.c) := fun Y hY => Q.out.1 Y (kb_call hbV (Nat.le_refl _) hY)
                have p1 : ∀ Y, Below V.heap.size V Y → Y.cell? ⟨b, o + j * 4 + 1, none⟩ = some (.int .i64 F.o) := fun Y hY => Q.out.2.1 Y (kb_call hbV (Nat.le_refl _) hY)
                have p2 : ∀ Y, Below V.heap.size V Y → Y.cell? ⟨b, o + j * 4 + 2, none⟩ = some (.int .i64 F.l) := fun Y hY => Q.out.2.2.1 Y (kb_call hbV (Nat.le_refl _) hY)
                have p3 : ∀ Y, Below V.heap.size V Y → Y.cell? ⟨b, o + j * 4 + 3, none⟩ = some (.int .i64 F.k) := fun Y hY => Q.out.2.2.2 Y (kb_call hbV (Nat.le_refl _) hY)
                have HbV := Lib.hid hbV
                have HAV := Lib.hid hAV
                have ef := Ef.out
                clear hbV hAV
                go_region_held3 (fun Y => Below V.heap.size V Y)
                  (first | assumption | exact Below.refl _ _ | (refine Below.drew ?_; first | assumption | exact Below.refl _ _))
                  (first
                    | (go_at_call 12; refine (Gc1.out _).mono ?_; rintro e w2 ⟨rfl, b2⟩; have k2 : Below V.heap.size V w2 := (by refine trans9 ?_ b2; first | assumption | exact Below.refl _ _ | (refine Below.drew ?_; first | assumption | exact Below.refl _ _)))
                    | (go_at_call 11; refine (Rf1.out _).mono ?_; rintro e w3 ⟨rfl, b3⟩; have k3 : Below V.heap.size V w3 := (by refine trans9 ?_ b3; first | assumption | exact Below.refl _ _ | (refine Below.drew ?_; first | assumption | exact Below.refl _ _))))
                all_goals
                  go_wp2
                  go_roundw
                  case rel =>
                    refine ⟨j + 1, by omega, by go_num, kb_call HbV.out (Nat.le_refl _) (by assumption), ?_⟩
                    rw [Hst.out]
                    exact HAV.out.below (by assumption) HAV.out.lt
                  case measure => simp [intOf]; omega
              · have dc : (F.c == 0) = false := by simpa using hc
                have dc2 : (F.c != 0) = true := by simpa using hc
                by_cases ha : A.c = 0
                · have da : (A.c == 0) = true := by simpa using ha
                  have hs2 : A.step F = F := by unfold Ft.step; rw [if_neg hc, if_pos (Or.inl ha)]
                  have Hs2 := Lib.hid hs2
                  clear hs2 hc ha
                  have HH := Lib.hid hb
                  go_wp2_with fail
                  go_quiet (fail)
                  have hAV : FtAt (((((wr.drewN nq).setCell ⟨B, 0, none⟩ (.int .i64 F.c)).setCell ⟨B, 1, none⟩ (.int .i64 F.o)).setCell ⟨B, 2, none⟩ (.int .i64 F.l)).setCell ⟨B, 3, none⟩ (.int .i64 F.k)) B (A.step F) := by
                    rw [Hs2.out]; exact (HA.out.below (below_drewN (Below.refl _ _) nq) lA).set F
                  have hbV : Below w.heap.size w (((((wr.drewN nq).setCell ⟨B, 0, none⟩ (.int .i64 F.c)).setCell ⟨B, 1, none⟩ (.int .i64 F.o)).setCell ⟨B, 2, none⟩ (.int .i64 F.l)).setCell ⟨B, 3, none⟩ (.int .i64 F.k)) := by
                    have hB : w.heap.size ≤ B := by rw [← HB.out]; exact BU.out.size
                    exact ((((below_drewN HH.out nq).setCell (p := ⟨B, 0, none⟩) hB _).setCell (p := ⟨B, 1, none⟩) hB _).setCell (p := ⟨B, 2, none⟩) hB _).setCell (p := ⟨B, 3, none⟩) hB _
                  go_upto_region 17 with fail
                  obtain ⟨V, hV⟩ : ∃ V : World, V = ((((wr.drewN nq).setCell ⟨B, 0, none⟩ (.int .i64 F.c)).setCell ⟨B, 1, none⟩ (.int .i64 F.o)).setCell ⟨B, 2, none⟩ (.int .i64 F.l)).setCell ⟨B, 3, none⟩ (.int .i64 F.k) := ⟨_, rfl⟩
                  rw [← hV] at hbV hAV ⊢
                  clear hV f0 f1 f2 f3 A0 A1 A2 A3 fA
                  have p0 : ∀ Y, Below V.heap.size V Y → Y.cell? ⟨b, o + j * 4, none⟩ = some (.int .i64 F.c) := fun Y hY => Q.out.1 Y (kb_call hbV (Nat.le_refl _) hY)
                  have p1 : ∀ Y, Below V.heap.size V Y → Y.cell? ⟨b, o + j * 4 + 1, none⟩ = some (.int .i64 F.o) := fun Y hY => Q.out.2.1 Y (kb_call hbV (Nat.le_refl _) hY)
                  have p2 : ∀ Y, Below V.heap.size V Y → Y.cell? ⟨b, o + j * 4 + 2, none⟩ = some (.int .i64 F.l) := fun Y hY => Q.out.2.2.1 Y (kb_call hbV (Nat.le_refl _) hY)
                  have p3 : ∀ Y, Below V.heap.size V Y → Y.cell? ⟨b, o + j * 4 + 3, none⟩ = some (.int .i64 F.k) := fun Y hY => Q.out.2.2.2 Y (kb_call hbV (Nat.le_refl _) hY)
                  have HbV := Lib.hid hbV
                  have HAV := Lib.hid hAV
                  have ef := Ef.out
                  clear hbV hAV
                  go_region_held3 (fun Y => Below V.heap.size V Y)
                    (first | assumption | exact Below.refl _ _ | (refine Below.drew ?_; first | assumption | exact Below.refl _ _))
                    (first
                      | (go_at_call 12; refine (Gc1.out _).mono ?_; rintro e w2 ⟨rfl, b2⟩; have k2 : Below V.heap.size V w2 := (by refine trans9 ?_ b2; first | assumption | exact Below.refl _ _ | (refine Below.drew ?_; first | assumption | exact Below.refl _ _)))
                      | (go_at_call 11; refine (Rf1.out _).mono ?_; rintro e w3 ⟨rfl, b3⟩; have k3 : Below V.heap.size V w3 := (by refine trans9 ?_ b3; first | assumption | exact Below.refl _ _ | (refine Below.drew ?_; first | assumption | exact Below.refl _ _))))
                  all_goals
                    go_wp2
                    go_roundw
                    case rel =>
                      refine ⟨j + 1, by omega, by go_num, kb_call HbV.out (Nat.le_refl _) (by assumption), ?_⟩
                      rw [Hst.out]
                      exact HAV.out.below (by assumption) HAV.out.lt
                    case measure => simp [intOf]; omega
                · have da : (A.c == 0) = false := by simpa using ha
                  by_cases ho : F.o < A.o
                  · have d3 : decide (F.o < A.o) = true := by simpa using ho
                    have hs2 : A.step F = F := by unfold Ft.step; rw [if_neg hc, if_pos (Or.inr ho)]
                    have Hs2 := Lib.hid hs2
                    clear hs2 hc ha ho
                    have HH := Lib.hid hb
                    go_wp2_with fail
                    go_quiet (fail)
                    have hAV : FtAt (((((wr.drewN nq).setCell ⟨B, 0, none⟩ (.int .i64 F.c)).setCell ⟨B, 1, none⟩ (.int .i64 F.o)).setCell ⟨B, 2, none⟩ (.int .i64 F.l)).setCell ⟨B, 3, none⟩ (.int .i64 F.k)) B (A.step F) := by
                      rw [Hs2.out]; exact (HA.out.below (below_drewN (Below.refl _ _) nq) lA).set F
                    have hbV : Below w.heap.size w (((((wr.drewN nq).setCell ⟨B, 0, none⟩ (.int .i64 F.c)).setCell ⟨B, 1, none⟩ (.int .i64 F.o)).setCell ⟨B, 2, none⟩ (.int .i64 F.l)).setCell ⟨B, 3, none⟩ (.int .i64 F.k)) := by
                      have hB : w.heap.size ≤ B := by rw [← HB.out]; exact BU.out.size
                      exact ((((below_drewN HH.out nq).setCell (p := ⟨B, 0, none⟩) hB _).setCell (p := ⟨B, 1, none⟩) hB _).setCell (p := ⟨B, 2, none⟩) hB _).setCell (p := ⟨B, 3, none⟩) hB _
                    go_upto_region 17 with fail
                    obtain ⟨V, hV⟩ : ∃ V : World, V = ((((wr.drewN nq).setCell ⟨B, 0, none⟩ (.int .i64 F.c)).setCell ⟨B, 1, none⟩ (.int .i64 F.o)).setCell ⟨B, 2, none⟩ (.int .i64 F.l)).setCell ⟨B, 3, none⟩ (.int .i64 F.k) := ⟨_, rfl⟩
                    rw [← hV] at hbV hAV ⊢
                    clear hV f0 f1 f2 f3 A0 A1 A2 A3 fA
                    have p0 : ∀ Y, Below V.heap.size V Y → Y.cell? ⟨b, o + j * 4, none⟩ = some (.int .i64 F.c) := fun Y hY => Q.out.1 Y (kb_call hbV (Nat.le_refl _) hY)
                    have p1 : ∀ Y, Below V.heap.size V Y → Y.cell? ⟨b, o + j * 4 + 1, none⟩ = some (.int .i64 F.o) := fun Y hY => Q.out.2.1 Y (kb_call hbV (Nat.le_refl _) hY)
                    have p2 : ∀ Y, Below V.heap.size V Y → Y.cell? ⟨b, o + j * 4 + 2, none⟩ = some (.int .i64 F.l) := fun Y hY => Q.out.2.2.1 Y (kb_call hbV (Nat.le_refl _) hY)
                    have p3 : ∀ Y, Below V.heap.size V Y → Y.cell? ⟨b, o + j * 4 + 3, none⟩ = some (.int .i64 F.k) := fun Y hY => Q.out.2.2.2 Y (kb_call hbV (Nat.le_refl _) hY)
                    have HbV := Lib.hid hbV
                    have HAV := Lib.hid hAV
                    have ef := Ef.out
                    clear hbV hAV
                    go_region_held3 (fun Y => Below V.heap.size V Y)
                      (first | assumption | exact Below.refl _ _ | (refine Below.drew ?_; first | assumption | exact Below.refl _ _))
                      (first
                        | (go_at_call 12; refine (Gc1.out _).mono ?_; rintro e w2 ⟨rfl, b2⟩; have k2 : Below V.heap.size V w2 := (by refine trans9 ?_ b2; first | assumption | exact Below.refl _ _ | (refine Below.drew ?_; first | assumption | exact Below.refl _ _)))
                        | (go_at_call 11; refine (Rf1.out _).mono ?_; rintro e w3 ⟨rfl, b3⟩; have k3 : Below V.heap.size V w3 := (by refine trans9 ?_ b3; first | assumption | exact Below.refl _ _ | (refine Below.drew ?_; first | assumption | exact Below.refl _ _))))
                    all_goals
                      go_wp2
                      go_roundw
                      case rel =>
                        refine ⟨j + 1, by omega, by go_num, kb_call HbV.out (Nat.le_refl _) (by assumption), ?_⟩
                        rw [Hst.out]
                        exact HAV.out.below (by assumption) HAV.out.lt
                      case measure => simp [intOf]; omega
                  · have d3 : decide (F.o < A.o) = false := by simpa using ho
                    have hs2 : A.step F = A := by unfold Ft.step; rw [if_neg hc, if_neg (by rintro (h | h); exact ha h; exact ho h)]
                    have Hs2 := Lib.hid hs2
                    clear hs2 hc ha ho
                    have HH := Lib.hid hb
                    go_wp2_with fail
                    go_quiet (fail)
                    have hbV := below_drewN HH.out nq
                    have hAV : FtAt (wr.drewN nq) B (A.step F) := by rw [Hs2.out]; exact HA.out.below (below_drewN (Below.refl _ _) nq) lA
                    obtain ⟨V, hV⟩ : ∃ V : World, V = wr.drewN nq := ⟨_, rfl⟩
                    go_upto_region 17 with fail
                    rw [← hV] at hbV hAV ⊢
                    clear hV f0 f1 f2 f3 A0 A1 A2 A3 fA
                    have p0 : ∀ Y, Below V.heap.size V Y → Y.cell? ⟨b, o + j * 4, none⟩ = some (.int .i64 F.c) := fun Y hY => Q.out.1 Y (kb_call hbV (Nat.le_refl _) hY)
                    have p1 : ∀ Y, Below V.heap.size V Y → Y.cell? ⟨b, o + j * 4 + 1, none⟩ = some (.int .i64 F.o) := fun Y hY => Q.out.2.1 Y (kb_call hbV (Nat.le_refl _) hY)
                    have p2 : ∀ Y, Below V.heap.size V Y → Y.cell? ⟨b, o + j * 4 + 2, none⟩ = some (.int .i64 F.l) := fun Y hY => Q.out.2.2.1 Y (kb_call hbV (Nat.le_refl _) hY)
                    have p3 : ∀ Y, Below V.heap.size V Y → Y.cell? ⟨b, o + j * 4 + 3, none⟩ = some (.int .i64 F.k) := fun Y hY => Q.out.2.2.2 Y (kb_call hbV (Nat.le_refl _) hY)
                    have HbV := Lib.hid hbV
                    have HAV := Lib.hid hAV
                    have ef := Ef.out
                    clear hbV hAV
                    go_region_held3 (fun Y => Below V.heap.size V Y)
                      (first | assumption | exact Below.refl _ _ | (refine Below.drew ?_; first | assumption | exact Below.refl _ _))
                      (first
                        | (go_at_call 12; refine (Gc1.out _).mono ?_; rintro e w2 ⟨rfl, b2⟩; have k2 : Below V.heap.size V w2 := (by refine trans9 ?_ b2; first | assumption | exact Below.refl _ _ | (refine Below.drew ?_; first | assumption | exact Below.refl _ _)))
                        | (go_at_call 11; refine (Rf1.out _).mono ?_; rintro e w3 ⟨rfl, b3⟩; have k3 : Below V.heap.size V w3 := (by refine trans9 ?_ b3; first | assumption | exact Below.refl _ _ | (refine Below.drew ?_; first | assumption | exact Below.refl _ _))))
                    all_goals
                      go_wp2
                      go_roundw
                      case rel =>
                        refine ⟨j + 1, by omega, by go_num, kb_call HbV.out (Nat.le_refl _) (by assumption), ?_⟩
                        rw [Hst.out]
                        exact HAV.out.below (by assumption) HAV.out.lt
                      case measure => simp [intOf]; omega
            · obtain rfl : n = j := by omega
              obtain ⟨hb, hA⟩ := H.out
              have fc := fun v W h => first_calls v n fs W h
              have ef := fun W => eql_fault (Ft.first fs n) (Ft.first fs n) W
              rw [decide_eq_true rfl] at ef
              generalize Ft.first fs n = A at *
              have Fc := Lib.hid fc
              obtain ⟨r0, r1, r2, r3⟩ := hA.rules
              have Rv := Lib.hid (Hv.out.below hb)
              have HH := Lib.hid hb
              clear fc hb hA
              go_wp2_with fail
              go_region_held3 (fun Y => Below wr.heap.size wr Y)
                (first | assumption | exact Below.refl _ _ | (refine Below.drew ?_; first | assumption | exact Below.refl _ _))
                (first
                  | (go_at_call 13; refine (Fc.out _ _ (Rv.out.below (by first | exact Below.refl _ _ | exact (Below.refl _ _).drew))).mono ?_; rintro e w2 ⟨rfl, b2⟩; have k2 : Below wr.heap.size wr w2 := (by refine trans9 ?_ b2; first | assumption | exact Below.refl _ _ | (refine Below.drew ?_; first | assumption | exact Below.refl _ _))))
              all_goals
                go_wp2
                go_ret
                exact ⟨rfl, kb_call HH.out (Nat.le_refl _) (by assumption)⟩
    · have ds : decide ((300 : Int) < (s.size : Int)) = false := by simp; omega
      have dn : decide ((20 : Int) < (n : Int)) = true := by simp; omega
      go_enter Try.func3, Try.ntmps3
      go_wp2_with fail
      refine (known_calls _).mono ?_; rintro e w1 ⟨rfl, b1⟩
      go_wp2
      go_ret
      exact ⟨rfl, b1⟩
  · have ds : decide ((300 : Int) < (s.size : Int)) = true := by simp; omega
    go_enter Try.func3, Try.ntmps3
    go_wp2_with fail
    refine (known_calls _).mono ?_; rintro e w1 ⟨rfl, b1⟩
    go_wp2
    go_ret
    exact ⟨rfl, b1⟩

end Go.Proofs.Ytpejphfggfppdaa
