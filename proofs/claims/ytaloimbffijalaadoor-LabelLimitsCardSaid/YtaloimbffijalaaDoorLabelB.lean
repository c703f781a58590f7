/- The walks of cmp.Or at two numbers, byNameAndValue. -/
import Derived.Test.YtaloimbffijalaaDoorLabelA
import Derived.Deep.RegionHeld3
import Derived.Deep.DrawnRows
import Derived.Deep.DeepCutAuto
set_option maxRecDepth 100000
set_option linter.unusedVariables false
set_option linter.unusedSimpArgs false
namespace Go.Proofs.YtaloimbffijalaaDoor
open Go.RowKit Go.Sort
attribute [local go_sem ↓] Go.wp_at_zero Go.wp_at_succ

/-- the first that is not 0 -/
def orI (x y : Int) : Int := if x = 0 then y else x
theorem orI_no {x y : Int} (h : x ≠ 0) : orI x y = x := if_neg h
theorem orI_yes {x y : Int} (h : x = 0) : orI x y = y := if_pos h
set_option maxHeartbeats 2000000 in
theorem or_calls (b : Nat) (x y : Int) (w : World) (hb : b < w.heap.size) (h0 : w.cell? ⟨b, 0, none⟩ = some (.int .i64 x)) (h1 : w.cell? ⟨b, 1, none⟩ = some (.int .i64 y)) :
    Calls Tryd.prog 39 #[.slice (some ⟨b, 0, none⟩) 2 2] w fun e w' => e = .returned (.int .i64 (orI x y)) ∧ w = w' := by
  go_enter Tryd.func39, Tryd.ntmps39
  go_wp2_with fail
  go_loop [8] (fun v => ∃ k : Nat, k ≤ 2 ∧ v = .int .i64 (k : Nat) ∧ Hid (1 ≤ k → x = 0) ∧ Hid (2 ≤ k → y = 0)) (fun v => 2 - (intOf v).toNat)
  case atStart => exact ⟨0, by omega, rfl, fun h => absurd h (by omega), fun h => absurd h (by omega)⟩
  case round =>
    obtain ⟨k, hk, rfl, H1, H2⟩ := hrel
    rcases (by omega : k = 0 ∨ k = 1 ∨ k = 2) with rfl | rfl | rfl
    · by_cases hx : x = 0
      · have dx : (x == 0) = true := by simpa using hx
        rw [show ((0 : Nat) : Int) = 0 from rfl]
        go_wp2
        go_round
        case rel => exact ⟨1, by omega, by go_num, fun _ => hx, fun h => absurd h (by omega)⟩
        case measure => simp [intOf]
      · have dx : (x == 0) = false := by simpa using hx
        have hr := Lib.hid (orI_no (y := y) hx)
        rw [show ((0 : Nat) : Int) = 0 from rfl]
        go_wp2
        go_ret
        exact ⟨by rw [hr.out]; rfl, rfl⟩
    · by_cases hy : y = 0
      · have dy : (y == 0) = true := by simpa using hy
        rw [show ((1 : Nat) : Int) = 1 from rfl]
        go_wp2
        go_round
        case rel => exact ⟨2, by omega, by go_num, fun _ => H1.out (by omega), fun _ => hy⟩
        case measure => simp [intOf]
      · have dy : (y == 0) = false := by simpa using hy
        have hr := Lib.hid (orI_yes (y := y) (H1.out (by omega)))
        rw [show ((1 : Nat) : Int) = 1 from rfl]
        go_wp2
        go_ret
        exact ⟨by rw [hr.out]; rfl, rfl⟩
    · have hr := Lib.hid (show orI x y = 0 by rw [orI_yes (H1.out (by omega)), H2.out (by omega)])
      rw [show ((2 : Nat) : Int) = 2 from rfl]
      go_wp2
      go_ret
      exact ⟨by rw [hr.out]; rfl, rfl⟩

theorem lbc_or (x y : Lb) : lbc x y = orI (cb x.1 y.1) (cb x.2 y.2) := rfl
set_option maxHeartbeats 4000000 in
theorem bynv_calls (x y : Lb) (w : World) :
    Calls Tryd.prog 29 #[lv x, lv y] w fun e w' => e = .returned (.int .i64 (lbc x y)) ∧ Below w.heap.size w w' := by
  have hn := Lib.hid (fun W => byname_calls x y W)
  have hv := Lib.hid (fun W => strcmp_calls x.2 y.2 W)
  rw [lbc_or]
  generalize cb x.1 y.1 = p at *
  generalize cb x.2 y.2 = q at *
  have ho := Lib.hid (fun b W h0 h1 h2 => or_calls b p q W h0 h1 h2)
  generalize orI p q = r at *
  have hB : Below w.heap.size w ((w.alloc (.cells #[.string (str x.1), .string (str x.2)] 38)).alloc (.cells #[.string (str y.1), .string (str y.2)] 38)) :=
    kp_alloc (kp_alloc (Below.refl _ _) _) _
  go_enter Tryd.func29, Tryd.ntmps29
  go_upto_region 1 with fail
  obtain ⟨W1, hW1⟩ : ∃ W1 : World, W1 = (w.alloc (.cells #[.string (str x.1), .string (str x.2)] 38)).alloc (.cells #[.string (str y.1), .string (str y.2)] 38) := ⟨_, rfl⟩
  have hz : W1.heap.size = w.heap.size + 2 := by rw [hW1]; simp
  have x0 : W1.cell? ⟨w.heap.size, 0, none⟩ = some (.string (str x.1)) := by rw [hW1]; simp
  have x1 : W1.cell? ⟨w.heap.size, 1, none⟩ = some (.string (str x.2)) := by rw [hW1]; simp
  have y0 : W1.cell? ⟨w.heap.size + 1, 0, none⟩ = some (.string (str y.1)) := by rw [hW1]; simp
  have y1 : W1.cell? ⟨w.heap.size + 1, 1, none⟩ = some (.string (str y.2)) := by rw [hW1]; simp
  rw [← hW1] at hB ⊢
  have l0 : w.heap.size < W1.heap.size := by omega
  have l1 : w.heap.size + 1 < W1.heap.size := by omega
  clear hW1
  have r0 : ∀ z, Below W1.heap.size W1 z → z.cell? ⟨w.heap.size, 0, none⟩ = some (.string (str x.1)) := fun z hz => (hz.cell l0).trans x0
  have r1 : ∀ z, Below W1.heap.size W1 z → z.cell? ⟨w.heap.size, 1, none⟩ = some (.string (str x.2)) := fun z hz => (hz.cell l0).trans x1
  have r2 : ∀ z, Below W1.heap.size W1 z → z.cell? ⟨w.heap.size + 1, 0, none⟩ = some (.string (str y.1)) := fun z hz => (hz.cell l1).trans y0
  have r3 : ∀ z, Below W1.heap.size W1 z → z.cell? ⟨w.heap.size + 1, 1, none⟩ = some (.string (str y.2)) := fun z hz => (hz.cell l1).trans y1
  have HB := Lib.hid hB
  clear x0 x1 y0 y1 l0 l1 hz hB
  go_region_held3 (fun z => Below W1.heap.size W1 z)
    (((repeat' first | assumption | exact Below.refl _ _ | exact Nat.le_refl _ | apply kp_alloc | apply kp_set | apply Below.drew | omega); done))
    ((first
      | (go_at_call 26; refine (hn.out _).mono ?_; rintro e w3 ⟨rfl, b3⟩; have k3 : Below W1.heap.size W1 w3 := (by refine trans9 ?_ b3; (repeat' first | assumption | exact Below.refl _ _ | exact Nat.le_refl _ | apply kp_alloc | apply kp_set | apply Below.drew | omega)))
      | (go_at_call 37; refine (hv.out _).mono ?_; rintro e w4 ⟨rfl, rfl⟩)
      | (go_at_call 39; refine (ho.out _ _ (by simp) (by simp) (by simp)).mono ?_; rintro e w5 ⟨rfl, rfl⟩)))
  all_goals
    go_wp2_with fail
    go_ret
    refine ⟨rfl, trans9 HB.out ?_⟩
    (repeat' first | assumption | exact Below.refl _ _ | exact Nat.le_refl _ | apply kp_alloc | apply kp_set | apply Below.drew | omega)

end Go.Proofs.YtaloimbffijalaaDoor
