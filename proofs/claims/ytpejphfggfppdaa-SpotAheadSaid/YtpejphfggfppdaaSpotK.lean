/- The law's own look ('known') is passed. -/
import Derived.Test.YtpejphfggfppdaaSpotC
import Derived.Deep.DeepCutAuto
import Derived.Deep.DrawnRows
namespace Go.Proofs.Ytpejphfggfppdaa
open Go.RowKit

attribute [local go_sem ↓] Go.wp_at_zero Go.wp_at_succ

theorem k_of1 (w : World) : Calls Try.prog 8 #[.string ⟨#[97, 10, 98]⟩, .int .i64 2] w fun e w' => e = .returned (.agg #[.int .i64 2, .int .i64 2, .int .i64 1]) ∧ Below w.heap.size w w' :=
  (of_calls ⟨#[97, 10, 98]⟩ 2 w (by decide)).mono fun _ _ ⟨h, hb⟩ => ⟨by rw [h]; rfl, hb⟩
theorem k_of2 (w : World) : Calls Try.prog 8 #[.string ⟨#[]⟩, .int .i64 (-5)] w fun e w' => e = .returned (.agg #[.int .i64 0, .int .i64 1, .int .i64 1]) ∧ Below w.heap.size w w' :=
  (of_calls ⟨#[]⟩ (-5) w (by decide)).mono fun _ _ ⟨h, hb⟩ => ⟨by rw [h]; rfl, hb⟩
theorem k_at1 (w : World) : Calls Try.prog 10 #[.int .i64 12, .string ⟨#[120, 121]⟩, .int .i64 1] w fun e w' => e = .returned (Ft.mk 12 1 1 2).v ∧ Below w.heap.size w w' :=
  (at_calls 12 ⟨#[120, 121]⟩ 1 w (by decide)).mono fun _ _ ⟨h, hb⟩ => ⟨by rw [h]; rfl, hb⟩
theorem k_at2 (w : World) : Calls Try.prog 10 #[.int .i64 19, .string ⟨#[120, 121, 122]⟩, .int .i64 2] w fun e w' => e = .returned (Ft.mk 19 2 1 3).v ∧ Below w.heap.size w w' :=
  (at_calls 19 ⟨#[120, 121, 122]⟩ 2 w (by decide)).mono fun _ _ ⟨h, hb⟩ => ⟨by rw [h]; rfl, hb⟩
theorem k_at3 (w : World) : Calls Try.prog 10 #[.int .i64 0, .string ⟨#[120]⟩, .int .i64 1] w fun e w' => e = .returned (Ft.mk 0 0 0 0).v ∧ Below w.heap.size w w' :=
  (at_calls 0 ⟨#[120]⟩ 1 w (by decide)).mono fun _ _ ⟨h, hb⟩ => ⟨by rw [h]; rfl, hb⟩
theorem k_good1 (w : World) : Calls Try.prog 12 #[(Ft.mk 12 1 1 2).v, .string ⟨#[120, 121]⟩] w fun e w' => e = .returned (.bool true) ∧ Below w.heap.size w w' :=
  (good_calls ⟨12, 1, 1, 2⟩ ⟨#[120, 121]⟩ w (by decide)).mono fun _ _ ⟨h, hb⟩ => ⟨by rw [h]; rfl, hb⟩
theorem k_good2 (w : World) : Calls Try.prog 12 #[(Ft.mk 12 1 1 2).v, .string ⟨#[10, 120, 121]⟩] w fun e w' => e = .returned (.bool false) ∧ Below w.heap.size w w' :=
  (good_calls ⟨12, 1, 1, 2⟩ ⟨#[10, 120, 121]⟩ w (by decide)).mono fun _ _ ⟨h, hb⟩ => ⟨by rw [h]; rfl, hb⟩
theorem k_first (w : World) (b : Nat) (hb : b < w.heap.size)
    (h : w.cell? ⟨b, 0, none⟩ = some (.int .i64 0) ∧ w.cell? ⟨b, 1, none⟩ = some (.int .i64 0) ∧ w.cell? ⟨b, 2, none⟩ = some (.int .i64 0) ∧ w.cell? ⟨b, 3, none⟩ = some (.int .i64 0) ∧ w.cell? ⟨b, 4, none⟩ = some (.int .i64 19) ∧ w.cell? ⟨b, 5, none⟩ = some (.int .i64 2) ∧ w.cell? ⟨b, 6, none⟩ = some (.int .i64 1) ∧ w.cell? ⟨b, 7, none⟩ = some (.int .i64 3) ∧ w.cell? ⟨b, 8, none⟩ = some (.int .i64 12) ∧ w.cell? ⟨b, 9, none⟩ = some (.int .i64 1) ∧ w.cell? ⟨b, 10, none⟩ = some (.int .i64 1) ∧ w.cell? ⟨b, 11, none⟩ = some (.int .i64 2)) :
    Calls Try.prog 13 #[.slice (some ⟨b, 0, none⟩) 3 3] w fun e w' => e = .returned (Ft.mk 12 1 1 2).v ∧ Below w.heap.size w w' := by
  have hv : FtRow w (.slice (some ⟨b, 0, none⟩) 3 3) 3 (fun i => ([⟨0, 0, 0, 0⟩, ⟨19, 2, 1, 3⟩, ⟨12, 1, 1, 2⟩] : List Ft).getD i Ft.zero) := by
    obtain ⟨h0, h1, h2, h3, h4, h5, h6, h7, h8, h9, h10, h11⟩ := h
    refine ⟨_, 3, rfl, Nat.le_refl _, by decide, fun _ => ⟨b, 0, rfl, hb, fun i hi => ?_⟩⟩
    rcases (by omega : i = 0 ∨ i = 1 ∨ i = 2) with rfl | rfl | rfl
    · exact ⟨h0, h1, h2, h3⟩
    · exact ⟨h4, h5, h6, h7⟩
    · exact ⟨h8, h9, h10, h11⟩
  exact (first_calls _ 3 _ w hv).mono fun _ _ ⟨h, hb⟩ => ⟨by rw [h]; rfl, hb⟩


set_option maxHeartbeats 2000000 in
theorem known_calls (w : World) : Calls Try.prog 7 #[] w fun e w' => e = .returned (.bool true) ∧ Below w.heap.size w w' := by
  go_enter Try.func7, Try.ntmps7
  go_wp2_with fail
  refine (k_of1 _).mono ?_; rintro e w1 ⟨rfl, b1⟩
  go_wp2_with fail
  refine (k_at1 _).mono ?_; rintro e w2 ⟨rfl, b2⟩
  go_upto_region 3 with fail
  have hF := (FtAt.new w2 ⟨12, 1, 1, 2⟩ 30)
  have hS := ((SpAt.new w1 2 2 1 26).below b2 (by simp)).below ((Below.refl _ _).alloc (Nat.le_refl _) (.cells #[.int .i64 12, .int .i64 1, .int .i64 1, .int .i64 2] 30)) (by have := b2.size; simp at this; omega)
  have hB : Below w.heap.size w (w2.alloc (.cells #[.int .i64 12, .int .i64 1, .int .i64 1, .int .i64 2] 30)) := ((b1.alloc b1.size _).trans (b2.mono (by have := b1.size; simp; omega))).alloc (by have := b1.size; have := b2.size; simp at this; omega) _
  obtain ⟨W1, hW1⟩ : ∃ W1 : World, W1 = w2.alloc (.cells #[.int .i64 12, .int .i64 1, .int .i64 1, .int .i64 2] 30) := ⟨_, rfl⟩
  have hz1 : w2.heap.size < W1.heap.size := by rw [hW1]; simp
  have hz2 : w1.heap.size < W1.heap.size := by have := b2.size; simp at this; omega
  rw [← hW1] at hF hS hB ⊢
  go_cut [3] (fun s3 wx => ∃ g : Nat, s3 = .pointer (some ⟨g, 0, none⟩) ∧ Below W1.heap.size W1 wx ∧ FtAt wx g ⟨12, 1, 1, 2⟩)
  case first =>
    have hF' := hF
    obtain ⟨lF, F0, F1, F2, F3, fF⟩ := hF'
    clear hS hB hF hW1
    have r0 : ∀ x, Below W1.heap.size W1 x → x.cell? ⟨w2.heap.size, 0, none⟩ = some (.int .i64 12) := fun x hx => (hx.cell hz1).trans F0
    have r1 : ∀ x, Below W1.heap.size W1 x → x.cell? ⟨w2.heap.size, 1, none⟩ = some (.int .i64 1) := fun x hx => (hx.cell hz1).trans F1
    have r2 : ∀ x, Below W1.heap.size W1 x → x.cell? ⟨w2.heap.size, 2, none⟩ = some (.int .i64 1) := fun x hx => (hx.cell hz1).trans F2
    have r3 : ∀ x, Below W1.heap.size W1 x → x.cell? ⟨w2.heap.size, 3, none⟩ = some (.int .i64 2) := fun x hx => (hx.cell hz1).trans F3
    clear lF F0 F1 F2 F3 fF hz1 hz2 b1 b2
    go_region_held3 (fun x => Below W1.heap.size W1 x)
      (((repeat' first | assumption | exact Below.refl _ _ | exact Nat.le_refl _ | apply kp_alloc | apply kp_set | apply Below.drew | omega); done))
      (first
        | (go_at_call 10; refine (k_at2 _).mono ?_; rintro e w3 ⟨rfl, b3⟩; obtain ⟨c3, f3⟩ := bcell b3; have k3 : Below W1.heap.size W1 w3 := (by refine trans9 ?_ b3; (repeat' first | assumption | exact Below.refl _ _ | exact Nat.le_refl _ | apply kp_alloc | apply kp_set | apply Below.drew | omega)); have y3 := k3.size; have v3 : W1.heap.size < w3.heap.size + 1 := (by omega); have z3 := b3.size; simp at z3; (try have x3 := Nat.lt_of_succ_le z3))
        | (go_at_call 13; refine (k_first _ _ (by first | (simp; done) | (simp; omega)) (by simp)).mono ?_; rintro e w4 ⟨rfl, b4⟩; obtain ⟨c4, f4⟩ := bcell b4; have k4 : Below W1.heap.size W1 w4 := (by refine trans9 ?_ b4; (repeat' first | assumption | exact Below.refl _ _ | exact Nat.le_refl _ | apply kp_alloc | apply kp_set | apply Below.drew | omega)); have y4 := k4.size; have v4 : W1.heap.size < w4.heap.size + 1 := (by omega); have z4 := b4.size; simp at z4; (try have x4 := Nat.lt_of_succ_le z4)))
    all_goals
      go_wp2_with fail
      go_meet
      refine ⟨_, rfl, ?_, ?_⟩
      · (repeat' first | assumption | exact Below.refl _ _ | exact Nat.le_refl _ | apply kp_alloc | apply kp_set | apply Below.drew | omega)
      · first | exact FtAt.new _ ⟨12, 1, 1, 2⟩ _ | (refine FtAt.set (f := ⟨0, 0, 0, 0⟩) ⟨?_, ?_, ?_, ?_, ?_, fun o => ?_⟩ ⟨12, 1, 1, 2⟩ <;> first | (go_simp; done) | omega)
  case rest =>
    obtain ⟨g, rfl, bG, hG⟩ := hcut
    have hF2 := hF.below bG hF.lt
    have hS2 := hS.below bG hS.lt
    have bB := trans9 hB bG
    clear hF hS hB hW1 bG hz1 hz2 b1 b2
    obtain ⟨lF, F0, F1, F2, F3, fF⟩ := hF2
    obtain ⟨lG, G0, G1, G2, G3, fG⟩ := hG
    obtain ⟨lS, S0, S1, S2, fS⟩ := hS2
    go_wp2_with fail
    refine (k_of2 _).mono ?_; rintro e w5 ⟨rfl, b5⟩
    obtain ⟨c5, f5⟩ := bcell b5
    go_wp2_with fail
    refine (k_at3 _).mono ?_; rintro e w6 ⟨rfl, b6⟩
    obtain ⟨c6, f6⟩ := bcell b6
    have z5 := b5.size
    have x5 := Nat.lt_of_lt_of_le lF z5
    go_wp2_with fail
    refine (k_good1 _).mono ?_; rintro e w7 ⟨rfl, b7⟩
    obtain ⟨c7, f7⟩ := bcell b7
    have z6 := b6.size
    have x6 := Nat.lt_of_lt_of_le x5 z6
    go_wp2_with fail
    refine (k_good2 _).mono ?_; rintro e w8 ⟨rfl, b8⟩
    go_wp2
    go_ret
    exact ⟨rfl, trans9 (trans9 (trans9 (trans9 bB b5) b6) b7) b8⟩

end Go.Proofs.Ytpejphfggfppdaa
