/- The walk of package point's Good. -/
import Derived.Test.YtjeefgamkoeiaaaGreatDoorPointW
import Derived.Test.YtjeefgamkoeiaaaGreatDoorLabelC
set_option maxRecDepth 100000
set_option linter.unusedVariables false
set_option linter.unusedSimpArgs false
namespace Go.Proofs.YtjeefgamkoeiaaaGreatDoor
open Go.RowKit Dc
attribute [local go_sem ↓] Go.wp_at_zero Go.wp_at_succ

theorem sh_below {w w' : World} (h : ShapesIn w) (hb : Below w.heap.size w w') : ShapesIn w' := h.below hb h.room
set_option maxHeartbeats 16000000 in
theorem pgood_calls (k : Int) (v : Value) (p : Pt) (w : World) (hv : LbRow w v p.l) (hp : PtIn p) (hS : ShapesIn w) (hP : Pl w) :
    Calls Tryz.prog 75 #[.int .i64 k, ptv v p] w fun e w' => e = .returned (.bool (ptOk k p)) ∧ Below w.heap.size w w' := by
  have hb0 : Below w.heap.size w (w.alloc (.cells (ptc v p) 53)) := kp_alloc (Below.refl _ _) _
  have P1 := PtAt.new w v p 53
  have hv1 := hv.below hb0
  have hS1 := sh_below hS hb0
  have hP1 := hP.below hb0
  have HRo := Lib.hid (fun W => roles_calls k W)
  have HCn := Lib.hid (fun W u h => icontains_calls (rolesL k) u p.ro W h)
  obtain ⟨A, cap, rfl, _⟩ := hv
  have HBd := Lib.hid (fun W => isbound_calls A p.l.length cap p W hp)
  have HVl := Lib.hid (fun W => isvalue_calls k A p.l.length cap p W hp)
  obtain ⟨W1, hW1⟩ : ∃ W1 : World, W1 = w.alloc (.cells (ptc (.slice A p.l.length cap) p) 53) := ⟨_, rfl⟩
  rw [← hW1] at hb0 P1 hv1 hS1 hP1
  have HLg := Lib.hid (fun X (hX : Below W1.heap.size W1 X) => lgood_calls p.l _ X (hv1.below hX) hp.fit (sh_below hS1 hX))
  have HTm := Lib.hid (fun X (hX : Below W1.heap.size W1 X) => ptime_calls A p.l.length cap p X (hP1.below hX) hp)
  have HHl := Lib.hid (fun X (hX : Below W1.heap.size W1 X) => haslab_calls _ p X (hv1.below hX))
  rw [show ptOk k p = (memI (rolesL k) p.ro && goodL p.l && infOk p && bndOk p && valOk k p && timOk p && !hasB p) from rfl]
  have hio : infOk p = (!p.inf || decide (p.ro = 1)) := rfl
  obtain ⟨L, hL⟩ : ∃ L, L = goodL p.l := ⟨_, rfl⟩
  obtain ⟨B, hB⟩ : ∃ B, B = bndOk p := ⟨_, rfl⟩
  obtain ⟨V, hV⟩ : ∃ V, V = valOk k p := ⟨_, rfl⟩
  obtain ⟨T, hT⟩ : ∃ T, T = timOk p := ⟨_, rfl⟩
  obtain ⟨H, hH⟩ : ∃ H, H = hasB p := ⟨_, rfl⟩
  rw [← hL] at HLg ⊢
  rw [← hB] at HBd ⊢
  rw [← hV] at HVl ⊢
  rw [← hT] at HTm ⊢
  rw [← hH] at HHl ⊢
  clear hL hB hV hT hH
  generalize hro : rolesL k = rl at *
  have a0 : ∀ z, Below W1.heap.size W1 z → z.cell? ⟨w.heap.size, 0, none⟩ = some (.slice A p.l.length cap) := fun z hz => (P1.below hz).c0
  have a1 : ∀ z, Below W1.heap.size W1 z → z.cell? ⟨w.heap.size, 1, none⟩ = some (.int .i64 p.ro) := fun z hz => (P1.below hz).c1
  have a2 : ∀ z, Below W1.heap.size W1 z → z.cell? ⟨w.heap.size, 2, none⟩ = some (.bool p.inf) := fun z hz => (P1.below hz).c2
  have a3 : ∀ z, Below W1.heap.size W1 z → z.cell? ⟨w.heap.size, 3, none⟩ = some (.int .i64 p.bm) := fun z hz => (P1.below hz).c3
  have a4 : ∀ z, Below W1.heap.size W1 z → z.cell? ⟨w.heap.size, 4, none⟩ = some (.int .i64 p.bs) := fun z hz => (P1.below hz).c4
  have a5 : ∀ z, Below W1.heap.size W1 z → z.cell? ⟨w.heap.size, 5, none⟩ = some (.int .i64 p.m) := fun z hz => (P1.below hz).c5
  have a6 : ∀ z, Below W1.heap.size W1 z → z.cell? ⟨w.heap.size, 6, none⟩ = some (.int .i64 p.s) := fun z hz => (P1.below hz).c6
  have a7 : ∀ z, Below W1.heap.size W1 z → z.cell? ⟨w.heap.size, 7, none⟩ = some (.bool p.td) := fun z hz => (P1.below hz).c7
  have a8 : ∀ z, Below W1.heap.size W1 z → z.cell? ⟨w.heap.size, 8, none⟩ = some (.int .i64 p.ti) := fun z hz => (P1.below hz).c8
  obtain ⟨pl, ro, inf, bm, bs, m, s, td, ti⟩ := p
  dsimp only [ptv] at *
  generalize pl.length = n at *
  obtain ⟨R, hR⟩ : ∃ R, R = memI rl ro := ⟨_, rfl⟩
  have HB := Lib.hid hb0
  rw [← hR] at HCn ⊢
  rw [hio]
  dsimp only [ptc] at hW1
  go_enter Tryz.func75, Tryz.ntmps75
  go_upto_region 1 with fail
  rw [← hW1]
  clear hR hio hb0 P1 hv1 hS1 hP1 hS hP hp hW1 hro
  cases R with
  | false =>
    refine wp_region_noPanic ?_
    refine wp_region_held_drew (S := fun z => Below W1.heap.size W1 z) (by kernel_rfl) ?_ (fun hHeld => ?_)
    · exact Below.drew (Below.refl _ _)
    refine tk9 0 (by assumption) ?_
    refine tk9 2 (by assumption) ?_
    refine tk9 3 (by assumption) ?_
    refine wpAnyH_ready (rs := [1]) (by kernel_rfl) (by simp) ?_
    refine AllReadyH.cons rfl (fun K hK => ?_) AllReadyH.nil
    try go_simp
    (go_at_call 98; refine (HRo.out _).mono ?_; rintro e w2 ⟨⟨vr, rfl, hvr⟩, b2⟩; have k2 : Below W1.heap.size W1 w2 := (by refine trans9 ?_ b2; (repeat' first | assumption | exact Below.refl _ _ | exact Nat.le_refl _ | apply kp_alloc | apply kp_set | apply Below.drew | omega)))
    refine hK.out _ _ ?_ (fun hHeld => ?_)
    · first | assumption | exact Below.drew (by assumption)
    clear hK K
    try simp only [Act.put, List.setIfInBounds_toArray, List.set_cons_zero, List.set_cons_succ]
    refine wpAnyH_ready (rs := [4]) (by kernel_rfl) (by simp) ?_
    refine AllReadyH.cons rfl (fun K hK => ?_) AllReadyH.nil
    try go_simp
    (go_at_call 97; refine (HCn.out _ _ (by first | exact hvr | exact NoRow.below hvr (by first | assumption | exact Below.drew (Below.refl _ _)))).mono ?_; rintro e w3 ⟨rfl, rfl⟩)
    refine hK.out _ _ ?_ (fun hHeld => ?_)
    · first | assumption | exact Below.drew (by assumption)
    clear hK K
    try simp only [Act.put, List.setIfInBounds_toArray, List.set_cons_zero, List.set_cons_succ]
    refine tk9 5 (by assumption) ?_
    refine tk9 6 (by assumption) ?_ (v := undef) (hy := Or.inr ⟨by rfl, rfl⟩)
    refine tk9 7 (by assumption) ?_ (v := undef) (hy := Or.inr ⟨by rfl, rfl⟩)
    refine tk9 8 (by assumption) ?_ (v := undef) (hy := Or.inr ⟨by rfl, rfl⟩)
    refine tk9 9 (by assumption) ?_
    refine tk9 10 (by assumption) ?_
    refine tk9 11 (by assumption) ?_ (v := undef) (hy := Or.inr ⟨by rfl, rfl⟩)
    refine tk9 12 (by assumption) ?_ (v := undef) (hy := Or.inr ⟨by rfl, rfl⟩)
    refine tk9 13 (by assumption) ?_ (v := undef) (hy := Or.inr ⟨by rfl, rfl⟩)
    refine tk9 14 (by assumption) ?_ (v := undef) (hy := Or.inr ⟨by rfl, rfl⟩)
    refine tk9 15 (by assumption) ?_ (v := undef) (hy := Or.inr ⟨by rfl, rfl⟩)
    refine tk9 16 (by assumption) ?_ (v := undef) (hy := Or.inr ⟨by rfl, rfl⟩)
    refine tk9 17 (by assumption) ?_ (v := undef) (hy := Or.inr ⟨by rfl, rfl⟩)
    refine tk9 18 (by assumption) ?_ (v := undef) (hy := Or.inr ⟨by rfl, rfl⟩)
    refine tk9 19 (by assumption) ?_
    refine tk9 20 (by assumption) ?_
    refine tk9 21 (by assumption) ?_ (v := undef) (hy := Or.inr ⟨by rfl, rfl⟩)
    refine tk9 22 (by assumption) ?_ (v := undef) (hy := Or.inr ⟨by rfl, rfl⟩)
    refine tk9 23 (by assumption) ?_
    refine tk9 24 (by assumption) ?_
    refine tk9 25 (by assumption) ?_ (v := undef) (hy := Or.inr ⟨by rfl, rfl⟩)
    refine tk9 26 (by assumption) ?_ (v := undef) (hy := Or.inr ⟨by rfl, rfl⟩)
    refine tk9 27 (by assumption) ?_ (v := undef) (hy := Or.inr ⟨by rfl, rfl⟩)
    refine tk9 28 (by assumption) ?_
    refine tk9 29 (by assumption) ?_
    refine tk9 30 (by assumption) ?_ (v := undef) (hy := Or.inr ⟨by rfl, rfl⟩)
    refine tk9 31 (by assumption) ?_ (v := undef) (hy := Or.inr ⟨by rfl, rfl⟩)
    refine tk9 32 (by assumption) ?_
    refine tk9 33 (by assumption) ?_
    refine tk9 34 (by assumption) ?_ (v := undef) (hy := Or.inr ⟨by rfl, rfl⟩)
    refine tk9 35 (by assumption) ?_ (v := undef) (hy := Or.inr ⟨by rfl, rfl⟩)
    refine tk9 36 (by assumption) ?_ (v := undef) (hy := Or.inr ⟨by rfl, rfl⟩)
    refine tk9 37 (by assumption) ?_
    refine tk9 38 (by assumption) ?_
    refine wpAnyH_done (by kernel_rfl) ?_ _
    refine NoPanic.normal ?_
    go_wp2_with fail
    go_ret
    refine ⟨by first | rfl | (rw [E1.out]; rfl) | (simp; done) | (cases H <;> rfl), trans9 HB.out ?_⟩
    (repeat' first | assumption | exact Below.refl _ _ | exact Nat.le_refl _ | apply kp_alloc | apply kp_set | apply Below.drew | omega)
  | true =>
  cases L with
  | false =>
    refine wp_region_noPanic ?_
    refine wp_region_held_drew (S := fun z => Below W1.heap.size W1 z) (by kernel_rfl) ?_ (fun hHeld => ?_)
    · exact Below.drew (Below.refl _ _)
    refine tk9 0 (by assumption) ?_
    refine tk9 2 (by assumption) ?_
    refine tk9 3 (by assumption) ?_
    refine wpAnyH_ready (rs := [1]) (by kernel_rfl) (by simp) ?_
    refine AllReadyH.cons rfl (fun K hK => ?_) AllReadyH.nil
    try go_simp
    (go_at_call 98; refine (HRo.out _).mono ?_; rintro e w2 ⟨⟨vr, rfl, hvr⟩, b2⟩; have k2 : Below W1.heap.size W1 w2 := (by refine trans9 ?_ b2; (repeat' first | assumption | exact Below.refl _ _ | exact Nat.le_refl _ | apply kp_alloc | apply kp_set | apply Below.drew | omega)))
    refine hK.out _ _ ?_ (fun hHeld => ?_)
    · first | assumption | exact Below.drew (by assumption)
    clear hK K
    try simp only [Act.put, List.setIfInBounds_toArray, List.set_cons_zero, List.set_cons_succ]
    refine wpAnyH_ready (rs := [4]) (by kernel_rfl) (by simp) ?_
    refine AllReadyH.cons rfl (fun K hK => ?_) AllReadyH.nil
    try go_simp
    (go_at_call 97; refine (HCn.out _ _ (by first | exact hvr | exact NoRow.below hvr (by first | assumption | exact Below.drew (Below.refl _ _)))).mono ?_; rintro e w3 ⟨rfl, rfl⟩)
    refine hK.out _ _ ?_ (fun hHeld => ?_)
    · first | assumption | exact Below.drew (by assumption)
    clear hK K
    try simp only [Act.put, List.setIfInBounds_toArray, List.set_cons_zero, List.set_cons_succ]
    refine tk9 5 (by assumption) ?_
    refine tk9 6 (by assumption) ?_
    refine tk9 7 (by assumption) ?_
    refine wpAnyH_ready (rs := [8]) (by kernel_rfl) (by simp) ?_
    refine AllReadyH.cons rfl (fun K hK => ?_) AllReadyH.nil
    try go_simp
    (go_at_call 99; refine (HLg.out _ (by first | assumption | exact Below.refl _ _ | (repeat' first | assumption | exact Below.refl _ _ | apply kp_alloc | apply Below.drew))).mono ?_; rintro e w4 ⟨rfl, b4⟩; have k4 : Below W1.heap.size W1 w4 := (by refine trans9 ?_ b4; (repeat' first | assumption | exact Below.refl _ _ | exact Nat.le_refl _ | apply kp_alloc | apply kp_set | apply Below.drew | omega)))
    refine hK.out _ _ ?_ (fun hHeld => ?_)
    · first | assumption | exact Below.drew (by assumption)
    clear hK K
    try simp only [Act.put, List.setIfInBounds_toArray, List.set_cons_zero, List.set_cons_succ]
    refine tk9 9 (by assumption) ?_
    refine tk9 10 (by assumption) ?_
    refine tk9 11 (by assumption) ?_ (v := undef) (hy := Or.inr ⟨by rfl, rfl⟩)
    refine tk9 12 (by assumption) ?_ (v := undef) (hy := Or.inr ⟨by rfl, rfl⟩)
    refine tk9 13 (by assumption) ?_ (v := undef) (hy := Or.inr ⟨by rfl, rfl⟩)
    refine tk9 14 (by assumption) ?_ (v := undef) (hy := Or.inr ⟨by rfl, rfl⟩)
    refine tk9 15 (by assumption) ?_ (v := undef) (hy := Or.inr ⟨by rfl, rfl⟩)
    refine tk9 16 (by assumption) ?_ (v := undef) (hy := Or.inr ⟨by rfl, rfl⟩)
    refine tk9 17 (by assumption) ?_ (v := undef) (hy := Or.inr ⟨by rfl, rfl⟩)
    refine tk9 18 (by assumption) ?_ (v := undef) (hy := Or.inr ⟨by rfl, rfl⟩)
    refine tk9 19 (by assumption) ?_
    refine tk9 20 (by assumption) ?_
    refine tk9 21 (by assumption) ?_ (v := undef) (hy := Or.inr ⟨by rfl, rfl⟩)
    refine tk9 22 (by assumption) ?_ (v := undef) (hy := Or.inr ⟨by rfl, rfl⟩)
    refine tk9 23 (by assumption) ?_
    refine tk9 24 (by assumption) ?_
    refine tk9 25 (by assumption) ?_ (v := undef) (hy := Or.inr ⟨by rfl, rfl⟩)
    refine tk9 26 (by assumption) ?_ (v := undef) (hy := Or.inr ⟨by rfl, rfl⟩)
    refine tk9 27 (by assumption) ?_ (v := undef) (hy := Or.inr ⟨by rfl, rfl⟩)
    refine tk9 28 (by assumption) ?_
    refine tk9 29 (by assumption) ?_
    refine tk9 30 (by assumption) ?_ (v := undef) (hy := Or.inr ⟨by rfl, rfl⟩)
    refine tk9 31 (by assumption) ?_ (v := undef) (hy := Or.inr ⟨by rfl, rfl⟩)
    refine tk9 32 (by assumption) ?_
    refine tk9 33 (by assumption) ?_
    refine tk9 34 (by assumption) ?_ (v := undef) (hy := Or.inr ⟨by rfl, rfl⟩)
    refine tk9 35 (by assumption) ?_ (v := undef) (hy := Or.inr ⟨by rfl, rfl⟩)
    refine tk9 36 (by assumption) ?_ (v := undef) (hy := Or.inr ⟨by rfl, rfl⟩)
    refine tk9 37 (by assumption) ?_
    refine tk9 38 (by assumption) ?_
    refine wpAnyH_done (by kernel_rfl) ?_ _
    refine NoPanic.normal ?_
    go_wp2_with fail
    go_ret
    refine ⟨by first | rfl | (rw [E1.out]; rfl) | (simp; done) | (cases H <;> rfl), trans9 HB.out ?_⟩
    (repeat' first | assumption | exact Below.refl _ _ | exact Nat.le_refl _ | apply kp_alloc | apply kp_set | apply Below.drew | omega)
  | true =>
  cases inf with
  | false =>
    cases B with
    | false =>
      refine wp_region_noPanic ?_
      refine wp_region_held_drew (S := fun z => Below W1.heap.size W1 z) (by kernel_rfl) ?_ (fun hHeld => ?_)
      · exact Below.drew (Below.refl _ _)
      refine tk9 0 (by assumption) ?_
      refine tk9 2 (by assumption) ?_
      refine tk9 3 (by assumption) ?_
      refine wpAnyH_ready (rs := [1]) (by kernel_rfl) (by simp) ?_
      refine AllReadyH.cons rfl (fun K hK => ?_) AllReadyH.nil
      try go_simp
      (go_at_call 98; refine (HRo.out _).mono ?_; rintro e w2 ⟨⟨vr, rfl, hvr⟩, b2⟩; have k2 : Below W1.heap.size W1 w2 := (by refine trans9 ?_ b2; (repeat' first | assumption | exact Below.refl _ _ | exact Nat.le_refl _ | apply kp_alloc | apply kp_set | apply Below.drew | omega)))
      refine hK.out _ _ ?_ (fun hHeld => ?_)
      · first | assumption | exact Below.drew (by assumption)
      clear hK K
      try simp only [Act.put, List.setIfInBounds_toArray, List.set_cons_zero, List.set_cons_succ]
      refine wpAnyH_ready (rs := [4]) (by kernel_rfl) (by simp) ?_
      refine AllReadyH.cons rfl (fun K hK => ?_) AllReadyH.nil
      try go_simp
      (go_at_call 97; refine (HCn.out _ _ (by first | exact hvr | exact NoRow.below hvr (by first | assumption | exact Below.drew (Below.refl _ _)))).mono ?_; rintro e w3 ⟨rfl, rfl⟩)
      refine hK.out _ _ ?_ (fun hHeld => ?_)
      · first | assumption | exact Below.drew (by assumption)
      clear hK K
      try simp only [Act.put, List.setIfInBounds_toArray, List.set_cons_zero, List.set_cons_succ]
      refine tk9 5 (by assumption) ?_
      refine tk9 6 (by assumption) ?_
      refine tk9 7 (by assumption) ?_
      refine wpAnyH_ready (rs := [8]) (by kernel_rfl) (by simp) ?_
      refine AllReadyH.cons rfl (fun K hK => ?_) AllReadyH.nil
      try go_simp
      (go_at_call 99; refine (HLg.out _ (by first | assumption | exact Below.refl _ _ | (repeat' first | assumption | exact Below.refl _ _ | apply kp_alloc | apply Below.drew))).mono ?_; rintro e w4 ⟨rfl, b4⟩; have k4 : Below W1.heap.size W1 w4 := (by refine trans9 ?_ b4; (repeat' first | assumption | exact Below.refl _ _ | exact Nat.le_refl _ | apply kp_alloc | apply kp_set | apply Below.drew | omega)))
      refine hK.out _ _ ?_ (fun hHeld => ?_)
      · first | assumption | exact Below.drew (by assumption)
      clear hK K
      try simp only [Act.put, List.setIfInBounds_toArray, List.set_cons_zero, List.set_cons_succ]
      refine tk9 9 (by assumption) ?_
      refine tk9 10 (by assumption) ?_
      refine tk9 11 (by assumption) ?_
      refine tk9 12 (by assumption) ?_
      refine tk9 13 (by assumption) ?_
      refine tk9 14 (by assumption) ?_
      refine tk9 15 (by assumption) ?_ (v := undef) (hy := Or.inr ⟨by rfl, rfl⟩)
      refine tk9 16 (by assumption) ?_ (v := undef) (hy := Or.inr ⟨by rfl, rfl⟩)
      refine tk9 17 (by assumption) ?_ (v := undef) (hy := Or.inr ⟨by rfl, rfl⟩)
      refine tk9 18 (by assumption) ?_
      refine tk9 19 (by assumption) ?_
      refine tk9 20 (by assumption) ?_
      refine tk9 21 (by assumption) ?_
      refine wpAnyH_ready (rs := [22]) (by kernel_rfl) (by simp) ?_
      refine AllReadyH.cons rfl (fun K hK => ?_) AllReadyH.nil
      try go_simp
      (go_at_call 100; refine (HBd.out _).mono ?_; rintro e w5 ⟨rfl, b5⟩; have k5 : Below W1.heap.size W1 w5 := (by refine trans9 ?_ b5; (repeat' first | assumption | exact Below.refl _ _ | exact Nat.le_refl _ | apply kp_alloc | apply kp_set | apply Below.drew | omega)))
      refine hK.out _ _ ?_ (fun hHeld => ?_)
      · first | assumption | exact Below.drew (by assumption)
      clear hK K
      try simp only [Act.put, List.setIfInBounds_toArray, List.set_cons_zero, List.set_cons_succ]
      refine tk9 23 (by assumption) ?_
      refine tk9 24 (by assumption) ?_
      refine tk9 25 (by assumption) ?_ (v := undef) (hy := Or.inr ⟨by rfl, rfl⟩)
      refine tk9 26 (by assumption) ?_ (v := undef) (hy := Or.inr ⟨by rfl, rfl⟩)
      refine tk9 27 (by assumption) ?_ (v := undef) (hy := Or.inr ⟨by rfl, rfl⟩)
      refine tk9 28 (by assumption) ?_
      refine tk9 29 (by assumption) ?_
      refine tk9 30 (by assumption) ?_ (v := undef) (hy := Or.inr ⟨by rfl, rfl⟩)
      refine tk9 31 (by assumption) ?_ (v := undef) (hy := Or.inr ⟨by rfl, rfl⟩)
      refine tk9 32 (by assumption) ?_
      refine tk9 33 (by assumption) ?_
      refine tk9 34 (by assumption) ?_ (v := undef) (hy := Or.inr ⟨by rfl, rfl⟩)
      refine tk9 35 (by assumption) ?_ (v := undef) (hy := Or.inr ⟨by rfl, rfl⟩)
      refine tk9 36 (by assumption) ?_ (v := undef) (hy := Or.inr ⟨by rfl, rfl⟩)
      refine tk9 37 (by assumption) ?_
      refine tk9 38 (by assumption) ?_
      refine wpAnyH_done (by kernel_rfl) ?_ _
      refine NoPanic.normal ?_
      go_wp2_with fail
      go_ret
      refine ⟨by first | rfl | (rw [E1.out]; rfl) | (simp; done) | (cases H <;> rfl), trans9 HB.out ?_⟩
      (repeat' first | assumption | exact Below.refl _ _ | exact Nat.le_refl _ | apply kp_alloc | apply kp_set | apply Below.drew | omega)
    | true =>
      cases V with
      | false =>
        refine wp_region_noPanic ?_
        refine wp_region_held_drew (S := fun z => Below W1.heap.size W1 z) (by kernel_rfl) ?_ (fun hHeld => ?_)
        · exact Below.drew (Below.refl _ _)
        refine tk9 0 (by assumption) ?_
        refine tk9 2 (by assumption) ?_
        refine tk9 3 (by assumption) ?_
        refine wpAnyH_ready (rs := [1]) (by kernel_rfl) (by simp) ?_
        refine AllReadyH.cons rfl (fun K hK => ?_) AllReadyH.nil
        try go_simp
        (go_at_call 98; refine (HRo.out _).mono ?_; rintro e w2 ⟨⟨vr, rfl, hvr⟩, b2⟩; have k2 : Below W1.heap.size W1 w2 := (by refine trans9 ?_ b2; (repeat' first | assumption | exact Below.refl _ _ | exact Nat.le_refl _ | apply kp_alloc | apply kp_set | apply Below.drew | omega)))
        refine hK.out _ _ ?_ (fun hHeld => ?_)
        · first | assumption | exact Below.drew (by assumption)
        clear hK K
        try simp only [Act.put, List.setIfInBounds_toArray, List.set_cons_zero, List.set_cons_succ]
        refine wpAnyH_ready (rs := [4]) (by kernel_rfl) (by simp) ?_
        refine AllReadyH.cons rfl (fun K hK => ?_) AllReadyH.nil
        try go_simp
        (go_at_call 97; refine (HCn.out _ _ (by first | exact hvr | exact NoRow.below hvr (by first | assumption | exact Below.drew (Below.refl _ _)))).mono ?_; rintro e w3 ⟨rfl, rfl⟩)
        refine hK.out _ _ ?_ (fun hHeld => ?_)
        · first | assumption | exact Below.drew (by assumption)
        clear hK K
        try simp only [Act.put, List.setIfInBounds_toArray, List.set_cons_zero, List.set_cons_succ]
        refine tk9 5 (by assumption) ?_
        refine tk9 6 (by assumption) ?_
        refine tk9 7 (by assumption) ?_
        refine wpAnyH_ready (rs := [8]) (by kernel_rfl) (by simp) ?_
        refine AllReadyH.cons rfl (fun K hK => ?_) AllReadyH.nil
        try go_simp
        (go_at_call 99; refine (HLg.out _ (by first | assumption | exact Below.refl _ _ | (repeat' first | assumption | exact Below.refl _ _ | apply kp_alloc | apply Below.drew))).mono ?_; rintro e w4 ⟨rfl, b4⟩; have k4 : Below W1.heap.size W1 w4 := (by refine trans9 ?_ b4; (repeat' first | assumption | exact Below.refl _ _ | exact Nat.le_refl _ | apply kp_alloc | apply kp_set | apply Below.drew | omega)))
        refine hK.out _ _ ?_ (fun hHeld => ?_)
        · first | assumption | exact Below.drew (by assumption)
        clear hK K
        try simp only [Act.put, List.setIfInBounds_toArray, List.set_cons_zero, List.set_cons_succ]
        refine tk9 9 (by assumption) ?_
        refine tk9 10 (by assumption) ?_
        refine tk9 11 (by assumption) ?_
        refine tk9 12 (by assumption) ?_
        refine tk9 13 (by assumption) ?_
        refine tk9 14 (by assumption) ?_
        refine tk9 15 (by assumption) ?_ (v := undef) (hy := Or.inr ⟨by rfl, rfl⟩)
        refine tk9 16 (by assumption) ?_ (v := undef) (hy := Or.inr ⟨by rfl, rfl⟩)
        refine tk9 17 (by assumption) ?_ (v := undef) (hy := Or.inr ⟨by rfl, rfl⟩)
        refine tk9 18 (by assumption) ?_
        refine tk9 19 (by assumption) ?_
        refine tk9 20 (by assumption) ?_
        refine tk9 21 (by assumption) ?_
        refine wpAnyH_ready (rs := [22]) (by kernel_rfl) (by simp) ?_
        refine AllReadyH.cons rfl (fun K hK => ?_) AllReadyH.nil
        try go_simp
        (go_at_call 100; refine (HBd.out _).mono ?_; rintro e w5 ⟨rfl, b5⟩; have k5 : Below W1.heap.size W1 w5 := (by refine trans9 ?_ b5; (repeat' first | assumption | exact Below.refl _ _ | exact Nat.le_refl _ | apply kp_alloc | apply kp_set | apply Below.drew | omega)))
        refine hK.out _ _ ?_ (fun hHeld => ?_)
        · first | assumption | exact Below.drew (by assumption)
        clear hK K
        try simp only [Act.put, List.setIfInBounds_toArray, List.set_cons_zero, List.set_cons_succ]
        refine tk9 23 (by assumption) ?_
        refine tk9 24 (by assumption) ?_
        refine tk9 25 (by assumption) ?_
        refine tk9 26 (by assumption) ?_
        refine wpAnyH_ready (rs := [27]) (by kernel_rfl) (by simp) ?_
        refine AllReadyH.cons rfl (fun K hK => ?_) AllReadyH.nil
        try go_simp
        (go_at_call 101; refine (HVl.out _).mono ?_; rintro e w6 ⟨rfl, b6⟩; have k6 : Below W1.heap.size W1 w6 := (by refine trans9 ?_ b6; (repeat' first | assumption | exact Below.refl _ _ | exact Nat.le_refl _ | apply kp_alloc | apply kp_set | apply Below.drew | omega)))
        refine hK.out _ _ ?_ (fun hHeld => ?_)
        · first | assumption | exact Below.drew (by assumption)
        clear hK K
        try simp only [Act.put, List.setIfInBounds_toArray, List.set_cons_zero, List.set_cons_succ]
        refine tk9 28 (by assumption) ?_
        refine tk9 29 (by assumption) ?_
        refine tk9 30 (by assumption) ?_ (v := undef) (hy := Or.inr ⟨by rfl, rfl⟩)
        refine tk9 31 (by assumption) ?_ (v := undef) (hy := Or.inr ⟨by rfl, rfl⟩)
        refine tk9 32 (by assumption) ?_
        refine tk9 33 (by assumption) ?_
        refine tk9 34 (by assumption) ?_ (v := undef) (hy := Or.inr ⟨by rfl, rfl⟩)
        refine tk9 35 (by assumption) ?_ (v := undef) (hy := Or.inr ⟨by rfl, rfl⟩)
        refine tk9 36 (by assumption) ?_ (v := undef) (hy := Or.inr ⟨by rfl, rfl⟩)
        refine tk9 37 (by assumption) ?_
        refine tk9 38 (by assumption) ?_
        refine wpAnyH_done (by kernel_rfl) ?_ _
        refine NoPanic.normal ?_
        go_wp2_with fail
        go_ret
        refine ⟨by first | rfl | (rw [E1.out]; rfl) | (simp; done) | (cases H <;> rfl), trans9 HB.out ?_⟩
        (repeat' first | assumption | exact Below.refl _ _ | exact Nat.le_refl _ | apply kp_alloc | apply kp_set | apply Below.drew | omega)
      | true =>
        cases T with
        | false =>
          refine wp_region_noPanic ?_
          refine wp_region_held_drew (S := fun z => Below W1.heap.size W1 z) (by kernel_rfl) ?_ (fun hHeld => ?_)
          · exact Below.drew (Below.refl _ _)
          refine tk9 0 (by assumption) ?_
          refine tk9 2 (by assumption) ?_
          refine tk9 3 (by assumption) ?_
          refine wpAnyH_ready (rs := [1]) (by kernel_rfl) (by simp) ?_
          refine AllReadyH.cons rfl (fun K hK => ?_) AllReadyH.nil
          try go_simp
          (go_at_call 98; refine (HRo.out _).mono ?_; rintro e w2 ⟨⟨vr, rfl, hvr⟩, b2⟩; have k2 : Below W1.heap.size W1 w2 := (by refine trans9 ?_ b2; (repeat' first | assumption | exact Below.refl _ _ | exact Nat.le_refl _ | apply kp_alloc | apply kp_set | apply Below.drew | omega)))
          refine hK.out _ _ ?_ (fun hHeld => ?_)
          · first | assumption | exact Below.drew (by assumption)
          clear hK K
          try simp only [Act.put, List.setIfInBounds_toArray, List.set_cons_zero, List.set_cons_succ]
          refine wpAnyH_ready (rs := [4]) (by kernel_rfl) (by simp) ?_
          refine AllReadyH.cons rfl (fun K hK => ?_) AllReadyH.nil
          try go_simp
          (go_at_call 97; refine (HCn.out _ _ (by first | exact hvr | exact NoRow.below hvr (by first | assumption | exact Below.drew (Below.refl _ _)))).mono ?_; rintro e w3 ⟨rfl, rfl⟩)
          refine hK.out _ _ ?_ (fun hHeld => ?_)
          · first | assumption | exact Below.drew (by assumption)
          clear hK K
          try simp only [Act.put, List.setIfInBounds_toArray, List.set_cons_zero, List.set_cons_succ]
          refine tk9 5 (by assumption) ?_
          refine tk9 6 (by assumption) ?_
          refine tk9 7 (by assumption) ?_
          refine wpAnyH_ready (rs := [8]) (by kernel_rfl) (by simp) ?_
          refine AllReadyH.cons rfl (fun K hK => ?_) AllReadyH.nil
          try go_simp
          (go_at_call 99; refine (HLg.out _ (by first | assumption | exact Below.refl _ _ | (repeat' first | assumption | exact Below.refl _ _ | apply kp_alloc | apply Below.drew))).mono ?_; rintro e w4 ⟨rfl, b4⟩; have k4 : Below W1.heap.size W1 w4 := (by refine trans9 ?_ b4; (repeat' first | assumption | exact Below.refl _ _ | exact Nat.le_refl _ | apply kp_alloc | apply kp_set | apply Below.drew | omega)))
          refine hK.out _ _ ?_ (fun hHeld => ?_)
          · first | assumption | exact Below.drew (by assumption)
          clear hK K
          try simp only [Act.put, List.setIfInBounds_toArray, List.set_cons_zero, List.set_cons_succ]
          refine tk9 9 (by assumption) ?_
          refine tk9 10 (by assumption) ?_
          refine tk9 11 (by assumption) ?_
          refine tk9 12 (by assumption) ?_
          refine tk9 13 (by assumption) ?_
          refine tk9 14 (by assumption) ?_
          refine tk9 15 (by assumption) ?_ (v := undef) (hy := Or.inr ⟨by rfl, rfl⟩)
          refine tk9 16 (by assumption) ?_ (v := undef) (hy := Or.inr ⟨by rfl, rfl⟩)
          refine tk9 17 (by assumption) ?_ (v := undef) (hy := Or.inr ⟨by rfl, rfl⟩)
          refine tk9 18 (by assumption) ?_
          refine tk9 19 (by assumption) ?_
          refine tk9 20 (by assumption) ?_
          refine tk9 21 (by assumption) ?_
          refine wpAnyH_ready (rs := [22]) (by kernel_rfl) (by simp) ?_
          refine AllReadyH.cons rfl (fun K hK => ?_) AllReadyH.nil
          try go_simp
          (go_at_call 100; refine (HBd.out _).mono ?_; rintro e w5 ⟨rfl, b5⟩; have k5 : Below W1.heap.size W1 w5 := (by refine trans9 ?_ b5; (repeat' first | assumption | exact Below.refl _ _ | exact Nat.le_refl _ | apply kp_alloc | apply kp_set | apply Below.drew | omega)))
          refine hK.out _ _ ?_ (fun hHeld => ?_)
          · first | assumption | exact Below.drew (by assumption)
          clear hK K
          try simp only [Act.put, List.setIfInBounds_toArray, List.set_cons_zero, List.set_cons_succ]
          refine tk9 23 (by assumption) ?_
          refine tk9 24 (by assumption) ?_
          refine tk9 25 (by assumption) ?_
          refine tk9 26 (by assumption) ?_
          refine wpAnyH_ready (rs := [27]) (by kernel_rfl) (by simp) ?_
          refine AllReadyH.cons rfl (fun K hK => ?_) AllReadyH.nil
          try go_simp
          (go_at_call 101; refine (HVl.out _).mono ?_; rintro e w6 ⟨rfl, b6⟩; have k6 : Below W1.heap.size W1 w6 := (by refine trans9 ?_ b6; (repeat' first | assumption | exact Below.refl _ _ | exact Nat.le_refl _ | apply kp_alloc | apply kp_set | apply Below.drew | omega)))
          refine hK.out _ _ ?_ (fun hHeld => ?_)
          · first | assumption | exact Below.drew (by assumption)
          clear hK K
          try simp only [Act.put, List.setIfInBounds_toArray, List.set_cons_zero, List.set_cons_succ]
          refine tk9 28 (by assumption) ?_
          refine tk9 29 (by assumption) ?_
          refine tk9 30 (by assumption) ?_
          refine wpAnyH_ready (rs := [31]) (by kernel_rfl) (by simp) ?_
          refine AllReadyH.cons rfl (fun K hK => ?_) AllReadyH.nil
          try go_simp
          (go_at_call 102; refine (HTm.out _ (by first | assumption | exact Below.refl _ _ | (repeat' first | assumption | exact Below.refl _ _ | apply kp_alloc | apply Below.drew))).mono ?_; rintro e w7 ⟨rfl, b7⟩; have k7 : Below W1.heap.size W1 w7 := (by refine trans9 ?_ b7; (repeat' first | assumption | exact Below.refl _ _ | exact Nat.le_refl _ | apply kp_alloc | apply kp_set | apply Below.drew | omega)))
          refine hK.out _ _ ?_ (fun hHeld => ?_)
          · first | assumption | exact Below.drew (by assumption)
          clear hK K
          try simp only [Act.put, List.setIfInBounds_toArray, List.set_cons_zero, List.set_cons_succ]
          refine tk9 32 (by assumption) ?_
          refine tk9 33 (by assumption) ?_
          refine tk9 34 (by assumption) ?_ (v := undef) (hy := Or.inr ⟨by rfl, rfl⟩)
          refine tk9 35 (by assumption) ?_ (v := undef) (hy := Or.inr ⟨by rfl, rfl⟩)
          refine tk9 36 (by assumption) ?_ (v := undef) (hy := Or.inr ⟨by rfl, rfl⟩)
          refine tk9 37 (by assumption) ?_
          refine tk9 38 (by assumption) ?_
          refine wpAnyH_done (by kernel_rfl) ?_ _
          refine NoPanic.normal ?_
          go_wp2_with fail
          go_ret
          refine ⟨by first | rfl | (rw [E1.out]; rfl) | (simp; done) | (cases H <;> rfl), trans9 HB.out ?_⟩
          (repeat' first | assumption | exact Below.refl _ _ | exact Nat.le_refl _ | apply kp_alloc | apply kp_set | apply Below.drew | omega)
        | true =>
          refine wp_region_noPanic ?_
          refine wp_region_held_drew (S := fun z => Below W1.heap.size W1 z) (by kernel_rfl) ?_ (fun hHeld => ?_)
          · exact Below.drew (Below.refl _ _)
          refine tk9 0 (by assumption) ?_
          refine tk9 2 (by assumption) ?_
          refine tk9 3 (by assumption) ?_
          refine wpAnyH_ready (rs := [1]) (by kernel_rfl) (by simp) ?_
          refine AllReadyH.cons rfl (fun K hK => ?_) AllReadyH.nil
          try go_simp
          (go_at_call 98; refine (HRo.out _).mono ?_; rintro e w2 ⟨⟨vr, rfl, hvr⟩, b2⟩; have k2 : Below W1.heap.size W1 w2 := (by refine trans9 ?_ b2; (repeat' first | assumption | exact Below.refl _ _ | exact Nat.le_refl _ | apply kp_alloc | apply kp_set | apply Below.drew | omega)))
          refine hK.out _ _ ?_ (fun hHeld => ?_)
          · first | assumption | exact Below.drew (by assumption)
          clear hK K
          try simp only [Act.put, List.setIfInBounds_toArray, List.set_cons_zero, List.set_cons_succ]
          refine wpAnyH_ready (rs := [4]) (by kernel_rfl) (by simp) ?_
          refine AllReadyH.cons rfl (fun K hK => ?_) AllReadyH.nil
          try go_simp
          (go_at_call 97; refine (HCn.out _ _ (by first | exact hvr | exact NoRow.below hvr (by first | assumption | exact Below.drew (Below.refl _ _)))).mono ?_; rintro e w3 ⟨rfl, rfl⟩)
          refine hK.out _ _ ?_ (fun hHeld => ?_)
          · first | assumption | exact Below.drew (by assumption)
          clear hK K
          try simp only [Act.put, List.setIfInBounds_toArray, List.set_cons_zero, List.set_cons_succ]
          refine tk9 5 (by assumption) ?_
          refine tk9 6 (by assumption) ?_
          refine tk9 7 (by assumption) ?_
          refine wpAnyH_ready (rs := [8]) (by kernel_rfl) (by simp) ?_
          refine AllReadyH.cons rfl (fun K hK => ?_) AllReadyH.nil
          try go_simp
          (go_at_call 99; refine (HLg.out _ (by first | assumption | exact Below.refl _ _ | (repeat' first | assumption | exact Below.refl _ _ | apply kp_alloc | apply Below.drew))).mono ?_; rintro e w4 ⟨rfl, b4⟩; have k4 : Below W1.heap.size W1 w4 := (by refine trans9 ?_ b4; (repeat' first | assumption | exact Below.refl _ _ | exact Nat.le_refl _ | apply kp_alloc | apply kp_set | apply Below.drew | omega)))
          refine hK.out _ _ ?_ (fun hHeld => ?_)
          · first | assumption | exact Below.drew (by assumption)
          clear hK K
          try simp only [Act.put, List.setIfInBounds_toArray, List.set_cons_zero, List.set_cons_succ]
          refine tk9 9 (by assumption) ?_
          refine tk9 10 (by assumption) ?_
          refine tk9 11 (by assumption) ?_
          refine tk9 12 (by assumption) ?_
          refine tk9 13 (by assumption) ?_
          refine tk9 14 (by assumption) ?_
          refine tk9 15 (by assumption) ?_ (v := undef) (hy := Or.inr ⟨by rfl, rfl⟩)
          refine tk9 16 (by assumption) ?_ (v := undef) (hy := Or.inr ⟨by rfl, rfl⟩)
          refine tk9 17 (by assumption) ?_ (v := undef) (hy := Or.inr ⟨by rfl, rfl⟩)
          refine tk9 18 (by assumption) ?_
          refine tk9 19 (by assumption) ?_
          refine tk9 20 (by assumption) ?_
          refine tk9 21 (by assumption) ?_
          refine wpAnyH_ready (rs := [22]) (by kernel_rfl) (by simp) ?_
          refine AllReadyH.cons rfl (fun K hK => ?_) AllReadyH.nil
          try go_simp
          (go_at_call 100; refine (HBd.out _).mono ?_; rintro e w5 ⟨rfl, b5⟩; have k5 : Below W1.heap.size W1 w5 := (by refine trans9 ?_ b5; (repeat' first | assumption | exact Below.refl _ _ | exact Nat.le_refl _ | apply kp_alloc | apply kp_set | apply Below.drew | omega)))
          refine hK.out _ _ ?_ (fun hHeld => ?_)
          · first | assumption | exact Below.drew (by assumption)
          clear hK K
          try simp only [Act.put, List.setIfInBounds_toArray, List.set_cons_zero, List.set_cons_succ]
          refine tk9 23 (by assumption) ?_
          refine tk9 24 (by assumption) ?_
          refine tk9 25 (by assumption) ?_
          refine tk9 26 (by assumption) ?_
          refine wpAnyH_ready (rs := [27]) (by kernel_rfl) (by simp) ?_
          refine AllReadyH.cons rfl (fun K hK => ?_) AllReadyH.nil
          try go_simp
          (go_at_call 101; refine (HVl.out _).mono ?_; rintro e w6 ⟨rfl, b6⟩; have k6 : Below W1.heap.size W1 w6 := (by refine trans9 ?_ b6; (repeat' first | assumption | exact Below.refl _ _ | exact Nat.le_refl _ | apply kp_alloc | apply kp_set | apply Below.drew | omega)))
          refine hK.out _ _ ?_ (fun hHeld => ?_)
          · first | assumption | exact Below.drew (by assumption)
          clear hK K
          try simp only [Act.put, List.setIfInBounds_toArray, List.set_cons_zero, List.set_cons_succ]
          refine tk9 28 (by assumption) ?_
          refine tk9 29 (by assumption) ?_
          refine tk9 30 (by assumption) ?_
          refine wpAnyH_ready (rs := [31]) (by kernel_rfl) (by simp) ?_
          refine AllReadyH.cons rfl (fun K hK => ?_) AllReadyH.nil
          try go_simp
          (go_at_call 102; refine (HTm.out _ (by first | assumption | exact Below.refl _ _ | (repeat' first | assumption | exact Below.refl _ _ | apply kp_alloc | apply Below.drew))).mono ?_; rintro e w7 ⟨rfl, b7⟩; have k7 : Below W1.heap.size W1 w7 := (by refine trans9 ?_ b7; (repeat' first | assumption | exact Below.refl _ _ | exact Nat.le_refl _ | apply kp_alloc | apply kp_set | apply Below.drew | omega)))
          refine hK.out _ _ ?_ (fun hHeld => ?_)
          · first | assumption | exact Below.drew (by assumption)
          clear hK K
          try simp only [Act.put, List.setIfInBounds_toArray, List.set_cons_zero, List.set_cons_succ]
          refine tk9 32 (by assumption) ?_
          refine tk9 33 (by assumption) ?_
          refine tk9 34 (by assumption) ?_
          refine wpAnyH_ready (rs := [35]) (by kernel_rfl) (by simp) ?_
          refine AllReadyH.cons rfl (fun K hK => ?_) AllReadyH.nil
          try go_simp
          (go_at_call 103; refine (HHl.out _ (by first | assumption | exact Below.refl _ _ | (repeat' first | assumption | exact Below.refl _ _ | apply kp_alloc | apply Below.drew))).mono ?_; rintro e w8 ⟨rfl, b8⟩; have k8 : Below W1.heap.size W1 w8 := (by refine trans9 ?_ b8; (repeat' first | assumption | exact Below.refl _ _ | exact Nat.le_refl _ | apply kp_alloc | apply kp_set | apply Below.drew | omega)))
          refine hK.out _ _ ?_ (fun hHeld => ?_)
          · first | assumption | exact Below.drew (by assumption)
          clear hK K
          try simp only [Act.put, List.setIfInBounds_toArray, List.set_cons_zero, List.set_cons_succ]
          refine tk9 36 (by assumption) ?_
          refine tk9 37 (by assumption) ?_
          refine tk9 38 (by assumption) ?_
          refine wpAnyH_done (by kernel_rfl) ?_ _
          refine NoPanic.normal ?_
          go_wp2_with fail
          go_ret
          refine ⟨by first | rfl | (rw [E1.out]; rfl) | (simp; done) | (cases H <;> rfl), trans9 HB.out ?_⟩
          (repeat' first | assumption | exact Below.refl _ _ | exact Nat.le_refl _ | apply kp_alloc | apply kp_set | apply Below.drew | omega)
  | true =>
    by_cases h1 : ro = 1
    · subst h1
      cases B with
      | false =>
        refine wp_region_noPanic ?_
        refine wp_region_held_drew (S := fun z => Below W1.heap.size W1 z) (by kernel_rfl) ?_ (fun hHeld => ?_)
        · exact Below.drew (Below.refl _ _)
        refine tk9 0 (by assumption) ?_
        refine tk9 2 (by assumption) ?_
        refine tk9 3 (by assumption) ?_
        refine wpAnyH_ready (rs := [1]) (by kernel_rfl) (by simp) ?_
        refine AllReadyH.cons rfl (fun K hK => ?_) AllReadyH.nil
        try go_simp
        (go_at_call 98; refine (HRo.out _).mono ?_; rintro e w2 ⟨⟨vr, rfl, hvr⟩, b2⟩; have k2 : Below W1.heap.size W1 w2 := (by refine trans9 ?_ b2; (repeat' first | assumption | exact Below.refl _ _ | exact Nat.le_refl _ | apply kp_alloc | apply kp_set | apply Below.drew | omega)))
        refine hK.out _ _ ?_ (fun hHeld => ?_)
        · first | assumption | exact Below.drew (by assumption)
        clear hK K
        try simp only [Act.put, List.setIfInBounds_toArray, List.set_cons_zero, List.set_cons_succ]
        refine wpAnyH_ready (rs := [4]) (by kernel_rfl) (by simp) ?_
        refine AllReadyH.cons rfl (fun K hK => ?_) AllReadyH.nil
        try go_simp
        (go_at_call 97; refine (HCn.out _ _ (by first | exact hvr | exact NoRow.below hvr (by first | assumption | exact Below.drew (Below.refl _ _)))).mono ?_; rintro e w3 ⟨rfl, rfl⟩)
        refine hK.out _ _ ?_ (fun hHeld => ?_)
        · first | assumption | exact Below.drew (by assumption)
        clear hK K
        try simp only [Act.put, List.setIfInBounds_toArray, List.set_cons_zero, List.set_cons_succ]
        refine tk9 5 (by assumption) ?_
        refine tk9 6 (by assumption) ?_
        refine tk9 7 (by assumption) ?_
        refine wpAnyH_ready (rs := [8]) (by kernel_rfl) (by simp) ?_
        refine AllReadyH.cons rfl (fun K hK => ?_) AllReadyH.nil
        try go_simp
        (go_at_call 99; refine (HLg.out _ (by first | assumption | exact Below.refl _ _ | (repeat' first | assumption | exact Below.refl _ _ | apply kp_alloc | apply Below.drew))).mono ?_; rintro e w4 ⟨rfl, b4⟩; have k4 : Below W1.heap.size W1 w4 := (by refine trans9 ?_ b4; (repeat' first | assumption | exact Below.refl _ _ | exact Nat.le_refl _ | apply kp_alloc | apply kp_set | apply Below.drew | omega)))
        refine hK.out _ _ ?_ (fun hHeld => ?_)
        · first | assumption | exact Below.drew (by assumption)
        clear hK K
        try simp only [Act.put, List.setIfInBounds_toArray, List.set_cons_zero, List.set_cons_succ]
        refine tk9 9 (by assumption) ?_
        refine tk9 10 (by assumption) ?_
        refine tk9 11 (by assumption) ?_
        refine tk9 12 (by assumption) ?_
        refine tk9 13 (by assumption) ?_
        refine tk9 14 (by assumption) ?_
        refine tk9 15 (by assumption) ?_
        refine tk9 16 (by assumption) ?_
        refine tk9 17 (by assumption) ?_
        refine tk9 18 (by assumption) ?_
        refine tk9 19 (by assumption) ?_
        refine tk9 20 (by assumption) ?_
        refine tk9 21 (by assumption) ?_
        refine wpAnyH_ready (rs := [22]) (by kernel_rfl) (by simp) ?_
        refine AllReadyH.cons rfl (fun K hK => ?_) AllReadyH.nil
        try go_simp
        (go_at_call 100; refine (HBd.out _).mono ?_; rintro e w5 ⟨rfl, b5⟩; have k5 : Below W1.heap.size W1 w5 := (by refine trans9 ?_ b5; (repeat' first | assumption | exact Below.refl _ _ | exact Nat.le_refl _ | apply kp_alloc | apply kp_set | apply Below.drew | omega)))
        refine hK.out _ _ ?_ (fun hHeld => ?_)
        · first | assumption | exact Below.drew (by assumption)
        clear hK K
        try simp only [Act.put, List.setIfInBounds_toArray, List.set_cons_zero, List.set_cons_succ]
        refine tk9 23 (by assumption) ?_
        refine tk9 24 (by assumption) ?_
        refine tk9 25 (by assumption) ?_ (v := undef) (hy := Or.inr ⟨by rfl, rfl⟩)
        refine tk9 26 (by assumption) ?_ (v := undef) (hy := Or.inr ⟨by rfl, rfl⟩)
        refine tk9 27 (by assumption) ?_ (v := undef) (hy := Or.inr ⟨by rfl, rfl⟩)
        refine tk9 28 (by assumption) ?_
        refine tk9 29 (by assumption) ?_
        refine tk9 30 (by assumption) ?_ (v := undef) (hy := Or.inr ⟨by rfl, rfl⟩)
        refine tk9 31 (by assumption) ?_ (v := undef) (hy := Or.inr ⟨by rfl, rfl⟩)
        refine tk9 32 (by assumption) ?_
        refine tk9 33 (by assumption) ?_
        refine tk9 34 (by assumption) ?_ (v := undef) (hy := Or.inr ⟨by rfl, rfl⟩)
        refine tk9 35 (by assumption) ?_ (v := undef) (hy := Or.inr ⟨by rfl, rfl⟩)
        refine tk9 36 (by assumption) ?_ (v := undef) (hy := Or.inr ⟨by rfl, rfl⟩)
        refine tk9 37 (by assumption) ?_
        refine tk9 38 (by assumption) ?_
        refine wpAnyH_done (by kernel_rfl) ?_ _
        refine NoPanic.normal ?_
        go_wp2_with fail
        go_ret
        refine ⟨by first | rfl | (rw [E1.out]; rfl) | (simp; done) | (cases H <;> rfl), trans9 HB.out ?_⟩
        (repeat' first | assumption | exact Below.refl _ _ | exact Nat.le_refl _ | apply kp_alloc | apply kp_set | apply Below.drew | omega)
      | true =>
        cases V with
        | false =>
          refine wp_region_noPanic ?_
          refine wp_region_held_drew (S := fun z => Below W1.heap.size W1 z) (by kernel_rfl) ?_ (fun hHeld => ?_)
          · exact Below.drew (Below.refl _ _)
          refine tk9 0 (by assumption) ?_
          refine tk9 2 (by assumption) ?_
          refine tk9 3 (by assumption) ?_
          refine wpAnyH_ready (rs := [1]) (by kernel_rfl) (by simp) ?_
          refine AllReadyH.cons rfl (fun K hK => ?_) AllReadyH.nil
          try go_simp
          (go_at_call 98; refine (HRo.out _).mono ?_; rintro e w2 ⟨⟨vr, rfl, hvr⟩, b2⟩; have k2 : Below W1.heap.size W1 w2 := (by refine trans9 ?_ b2; (repeat' first | assumption | exact Below.refl _ _ | exact Nat.le_refl _ | apply kp_alloc | apply kp_set | apply Below.drew | omega)))
          refine hK.out _ _ ?_ (fun hHeld => ?_)
          · first | assumption | exact Below.drew (by assumption)
          clear hK K
          try simp only [Act.put, List.setIfInBounds_toArray, List.set_cons_zero, List.set_cons_succ]
          refine wpAnyH_ready (rs := [4]) (by kernel_rfl) (by simp) ?_
          refine AllReadyH.cons rfl (fun K hK => ?_) AllReadyH.nil
          try go_simp
          (go_at_call 97; refine (HCn.out _ _ (by first | exact hvr | exact NoRow.below hvr (by first | assumption | exact Below.drew (Below.refl _ _)))).mono ?_; rintro e w3 ⟨rfl, rfl⟩)
          refine hK.out _ _ ?_ (fun hHeld => ?_)
          · first | assumption | exact Below.drew (by assumption)
          clear hK K
          try simp only [Act.put, List.setIfInBounds_toArray, List.set_cons_zero, List.set_cons_succ]
          refine tk9 5 (by assumption) ?_
          refine tk9 6 (by assumption) ?_
          refine tk9 7 (by assumption) ?_
          refine wpAnyH_ready (rs := [8]) (by kernel_rfl) (by simp) ?_
          refine AllReadyH.cons rfl (fun K hK => ?_) AllReadyH.nil
          try go_simp
          (go_at_call 99; refine (HLg.out _ (by first | assumption | exact Below.refl _ _ | (repeat' first | assumption | exact Below.refl _ _ | apply kp_alloc | apply Below.drew))).mono ?_; rintro e w4 ⟨rfl, b4⟩; have k4 : Below W1.heap.size W1 w4 := (by refine trans9 ?_ b4; (repeat' first | assumption | exact Below.refl _ _ | exact Nat.le_refl _ | apply kp_alloc | apply kp_set | apply Below.drew | omega)))
          refine hK.out _ _ ?_ (fun hHeld => ?_)
          · first | assumption | exact Below.drew (by assumption)
          clear hK K
          try simp only [Act.put, List.setIfInBounds_toArray, List.set_cons_zero, List.set_cons_succ]
          refine tk9 9 (by assumption) ?_
          refine tk9 10 (by assumption) ?_
          refine tk9 11 (by assumption) ?_
          refine tk9 12 (by assumption) ?_
          refine tk9 13 (by assumption) ?_
          refine tk9 14 (by assumption) ?_
          refine tk9 15 (by assumption) ?_
          refine tk9 16 (by assumption) ?_
          refine tk9 17 (by assumption) ?_
          refine tk9 18 (by assumption) ?_
          refine tk9 19 (by assumption) ?_
          refine tk9 20 (by assumption) ?_
          refine tk9 21 (by assumption) ?_
          refine wpAnyH_ready (rs := [22]) (by kernel_rfl) (by simp) ?_
          refine AllReadyH.cons rfl (fun K hK => ?_) AllReadyH.nil
          try go_simp
          (go_at_call 100; refine (HBd.out _).mono ?_; rintro e w5 ⟨rfl, b5⟩; have k5 : Below W1.heap.size W1 w5 := (by refine trans9 ?_ b5; (repeat' first | assumption | exact Below.refl _ _ | exact Nat.le_refl _ | apply kp_alloc | apply kp_set | apply Below.drew | omega)))
          refine hK.out _ _ ?_ (fun hHeld => ?_)
          · first | assumption | exact Below.drew (by assumption)
          clear hK K
          try simp only [Act.put, List.setIfInBounds_toArray, List.set_cons_zero, List.set_cons_succ]
          refine tk9 23 (by assumption) ?_
          refine tk9 24 (by assumption) ?_
          refine tk9 25 (by assumption) ?_
          refine tk9 26 (by assumption) ?_
          refine wpAnyH_ready (rs := [27]) (by kernel_rfl) (by simp) ?_
          refine AllReadyH.cons rfl (fun K hK => ?_) AllReadyH.nil
          try go_simp
          (go_at_call 101; refine (HVl.out _).mono ?_; rintro e w6 ⟨rfl, b6⟩; have k6 : Below W1.heap.size W1 w6 := (by refine trans9 ?_ b6; (repeat' first | assumption | exact Below.refl _ _ | exact Nat.le_refl _ | apply kp_alloc | apply kp_set | apply Below.drew | omega)))
          refine hK.out _ _ ?_ (fun hHeld => ?_)
          · first | assumption | exact Below.drew (by assumption)
          clear hK K
          try simp only [Act.put, List.setIfInBounds_toArray, List.set_cons_zero, List.set_cons_succ]
          refine tk9 28 (by assumption) ?_
          refine tk9 29 (by assumption) ?_
          refine tk9 30 (by assumption) ?_ (v := undef) (hy := Or.inr ⟨by rfl, rfl⟩)
          refine tk9 31 (by assumption) ?_ (v := undef) (hy := Or.inr ⟨by rfl, rfl⟩)
          refine tk9 32 (by assumption) ?_
          refine tk9 33 (by assumption) ?_
          refine tk9 34 (by assumption) ?_ (v := undef) (hy := Or.inr ⟨by rfl, rfl⟩)
          refine tk9 35 (by assumption) ?_ (v := undef) (hy := Or.inr ⟨by rfl, rfl⟩)
          refine tk9 36 (by assumption) ?_ (v := undef) (hy := Or.inr ⟨by rfl, rfl⟩)
          refine tk9 37 (by assumption) ?_
          refine tk9 38 (by assumption) ?_
          refine wpAnyH_done (by kernel_rfl) ?_ _
          refine NoPanic.normal ?_
          go_wp2_with fail
          go_ret
          refine ⟨by first | rfl | (rw [E1.out]; rfl) | (simp; done) | (cases H <;> rfl), trans9 HB.out ?_⟩
          (repeat' first | assumption | exact Below.refl _ _ | exact Nat.le_refl _ | apply kp_alloc | apply kp_set | apply Below.drew | omega)
        | true =>
          cases T with
          | false =>
            refine wp_region_noPanic ?_
            refine wp_region_held_drew (S := fun z => Below W1.heap.size W1 z) (by kernel_rfl) ?_ (fun hHeld => ?_)
            · exact Below.drew (Below.refl _ _)
            refine tk9 0 (by assumption) ?_
            refine tk9 2 (by assumption) ?_
            refine tk9 3 (by assumption) ?_
            refine wpAnyH_ready (rs := [1]) (by kernel_rfl) (by simp) ?_
            refine AllReadyH.cons rfl (fun K hK => ?_) AllReadyH.nil
            try go_simp
            (go_at_call 98; refine (HRo.out _).mono ?_; rintro e w2 ⟨⟨vr, rfl, hvr⟩, b2⟩; have k2 : Below W1.heap.size W1 w2 := (by refine trans9 ?_ b2; (repeat' first | assumption | exact Below.refl _ _ | exact Nat.le_refl _ | apply kp_alloc | apply kp_set | apply Below.drew | omega)))
            refine hK.out _ _ ?_ (fun hHeld => ?_)
            · first | assumption | exact Below.drew (by assumption)
            clear hK K
            try simp only [Act.put, List.setIfInBounds_toArray, List.set_cons_zero, List.set_cons_succ]
            refine wpAnyH_ready (rs := [4]) (by kernel_rfl) (by simp) ?_
            refine AllReadyH.cons rfl (fun K hK => ?_) AllReadyH.nil
            try go_simp
            (go_at_call 97; refine (HCn.out _ _ (by first | exact hvr | exact NoRow.below hvr (by first | assumption | exact Below.drew (Below.refl _ _)))).mono ?_; rintro e w3 ⟨rfl, rfl⟩)
            refine hK.out _ _ ?_ (fun hHeld => ?_)
            · first | assumption | exact Below.drew (by assumption)
            clear hK K
            try simp only [Act.put, List.setIfInBounds_toArray, List.set_cons_zero, List.set_cons_succ]
            refine tk9 5 (by assumption) ?_
            refine tk9 6 (by assumption) ?_
            refine tk9 7 (by assumption) ?_
            refine wpAnyH_ready (rs := [8]) (by kernel_rfl) (by simp) ?_
            refine AllReadyH.cons rfl (fun K hK => ?_) AllReadyH.nil
            try go_simp
            (go_at_call 99; refine (HLg.out _ (by first | assumption | exact Below.refl _ _ | (repeat' first | assumption | exact Below.refl _ _ | apply kp_alloc | apply Below.drew))).mono ?_; rintro e w4 ⟨rfl, b4⟩; have k4 : Below W1.heap.size W1 w4 := (by refine trans9 ?_ b4; (repeat' first | assumption | exact Below.refl _ _ | exact Nat.le_refl _ | apply kp_alloc | apply kp_set | apply Below.drew | omega)))
            refine hK.out _ _ ?_ (fun hHeld => ?_)
            · first | assumption | exact Below.drew (by assumption)
            clear hK K
            try simp only [Act.put, List.setIfInBounds_toArray, List.set_cons_zero, List.set_cons_succ]
            refine tk9 9 (by assumption) ?_
            refine tk9 10 (by assumption) ?_
            refine tk9 11 (by assumption) ?_
            refine tk9 12 (by assumption) ?_
            refine tk9 13 (by assumption) ?_
            refine tk9 14 (by assumption) ?_
            refine tk9 15 (by assumption) ?_
            refine tk9 16 (by assumption) ?_
            refine tk9 17 (by assumption) ?_
            refine tk9 18 (by assumption) ?_
            refine tk9 19 (by assumption) ?_
            refine tk9 20 (by assumption) ?_
            refine tk9 21 (by assumption) ?_
            refine wpAnyH_ready (rs := [22]) (by kernel_rfl) (by simp) ?_
            refine AllReadyH.cons rfl (fun K hK => ?_) AllReadyH.nil
            try go_simp
            (go_at_call 100; refine (HBd.out _).mono ?_; rintro e w5 ⟨rfl, b5⟩; have k5 : Below W1.heap.size W1 w5 := (by refine trans9 ?_ b5; (repeat' first | assumption | exact Below.refl _ _ | exact Nat.le_refl _ | apply kp_alloc | apply kp_set | apply Below.drew | omega)))
            refine hK.out _ _ ?_ (fun hHeld => ?_)
            · first | assumption | exact Below.drew (by assumption)
            clear hK K
            try simp only [Act.put, List.setIfInBounds_toArray, List.set_cons_zero, List.set_cons_succ]
            refine tk9 23 (by assumption) ?_
            refine tk9 24 (by assumption) ?_
            refine tk9 25 (by assumption) ?_
            refine tk9 26 (by assumption) ?_
            refine wpAnyH_ready (rs := [27]) (by kernel_rfl) (by simp) ?_
            refine AllReadyH.cons rfl (fun K hK => ?_) AllReadyH.nil
            try go_simp
            (go_at_call 101; refine (HVl.out _).mono ?_; rintro e w6 ⟨rfl, b6⟩; have k6 : Below W1.heap.size W1 w6 := (by refine trans9 ?_ b6; (repeat' first | assumption | exact Below.refl _ _ | exact Nat.le_refl _ | apply kp_alloc | apply kp_set | apply Below.drew | omega)))
            refine hK.out _ _ ?_ (fun hHeld => ?_)
            · first | assumption | exact Below.drew (by assumption)
            clear hK K
            try simp only [Act.put, List.setIfInBounds_toArray, List.set_cons_zero, List.set_cons_succ]
            refine tk9 28 (by assumption) ?_
            refine tk9 29 (by assumption) ?_
            refine tk9 30 (by assumption) ?_
            refine wpAnyH_ready (rs := [31]) (by kernel_rfl) (by simp) ?_
            refine AllReadyH.cons rfl (fun K hK => ?_) AllReadyH.nil
            try go_simp
            (go_at_call 102; refine (HTm.out _ (by first | assumption | exact Below.refl _ _ | (repeat' first | assumption | exact Below.refl _ _ | apply kp_alloc | apply Below.drew))).mono ?_; rintro e w7 ⟨rfl, b7⟩; have k7 : Below W1.heap.size W1 w7 := (by refine trans9 ?_ b7; (repeat' first | assumption | exact Below.refl _ _ | exact Nat.le_refl _ | apply kp_alloc | apply kp_set | apply Below.drew | omega)))
            refine hK.out _ _ ?_ (fun hHeld => ?_)
            · first | assumption | exact Below.drew (by assumption)
            clear hK K
            try simp only [Act.put, List.setIfInBounds_toArray, List.set_cons_zero, List.set_cons_succ]
            refine tk9 32 (by assumption) ?_
            refine tk9 33 (by assumption) ?_
            refine tk9 34 (by assumption) ?_ (v := undef) (hy := Or.inr ⟨by rfl, rfl⟩)
            refine tk9 35 (by assumption) ?_ (v := undef) (hy := Or.inr ⟨by rfl, rfl⟩)
            refine tk9 36 (by assumption) ?_ (v := undef) (hy := Or.inr ⟨by rfl, rfl⟩)
            refine tk9 37 (by assumption) ?_
            refine tk9 38 (by assumption) ?_
            refine wpAnyH_done (by kernel_rfl) ?_ _
            refine NoPanic.normal ?_
            go_wp2_with fail
            go_ret
            refine ⟨by first | rfl | (rw [E1.out]; rfl) | (simp; done) | (cases H <;> rfl), trans9 HB.out ?_⟩
            (repeat' first | assumption | exact Below.refl _ _ | exact Nat.le_refl _ | apply kp_alloc | apply kp_set | apply Below.drew | omega)
          | true =>
            refine wp_region_noPanic ?_
            refine wp_region_held_drew (S := fun z => Below W1.heap.size W1 z) (by kernel_rfl) ?_ (fun hHeld => ?_)
            · exact Below.drew (Below.refl _ _)
            refine tk9 0 (by assumption) ?_
            refine tk9 2 (by assumption) ?_
            refine tk9 3 (by assumption) ?_
            refine wpAnyH_ready (rs := [1]) (by kernel_rfl) (by simp) ?_
            refine AllReadyH.cons rfl (fun K hK => ?_) AllReadyH.nil
            try go_simp
            (go_at_call 98; refine (HRo.out _).mono ?_; rintro e w2 ⟨⟨vr, rfl, hvr⟩, b2⟩; have k2 : Below W1.heap.size W1 w2 := (by refine trans9 ?_ b2; (repeat' first | assumption | exact Below.refl _ _ | exact Nat.le_refl _ | apply kp_alloc | apply kp_set | apply Below.drew | omega)))
            refine hK.out _ _ ?_ (fun hHeld => ?_)
            · first | assumption | exact Below.drew (by assumption)
            clear hK K
            try simp only [Act.put, List.setIfInBounds_toArray, List.set_cons_zero, List.set_cons_succ]
            refine wpAnyH_ready (rs := [4]) (by kernel_rfl) (by simp) ?_
            refine AllReadyH.cons rfl (fun K hK => ?_) AllReadyH.nil
            try go_simp
            (go_at_call 97; refine (HCn.out _ _ (by first | exact hvr | exact NoRow.below hvr (by first | assumption | exact Below.drew (Below.refl _ _)))).mono ?_; rintro e w3 ⟨rfl, rfl⟩)
            refine hK.out _ _ ?_ (fun hHeld => ?_)
            · first | assumption | exact Below.drew (by assumption)
            clear hK K
            try simp only [Act.put, List.setIfInBounds_toArray, List.set_cons_zero, List.set_cons_succ]
            refine tk9 5 (by assumption) ?_
            refine tk9 6 (by assumption) ?_
            refine tk9 7 (by assumption) ?_
            refine wpAnyH_ready (rs := [8]) (by kernel_rfl) (by simp) ?_
            refine AllReadyH.cons rfl (fun K hK => ?_) AllReadyH.nil
            try go_simp
            (go_at_call 99; refine (HLg.out _ (by first | assumption | exact Below.refl _ _ | (repeat' first | assumption | exact Below.refl _ _ | apply kp_alloc | apply Below.drew))).mono ?_; rintro e w4 ⟨rfl, b4⟩; have k4 : Below W1.heap.size W1 w4 := (by refine trans9 ?_ b4; (repeat' first | assumption | exact Below.refl _ _ | exact Nat.le_refl _ | apply kp_alloc | apply kp_set | apply Below.drew | omega)))
            refine hK.out _ _ ?_ (fun hHeld => ?_)
            · first | assumption | exact Below.drew (by assumption)
            clear hK K
            try simp only [Act.put, List.setIfInBounds_toArray, List.set_cons_zero, List.set_cons_succ]
            refine tk9 9 (by assumption) ?_
            refine tk9 10 (by assumption) ?_
            refine tk9 11 (by assumption) ?_
            refine tk9 12 (by assumption) ?_
            refine tk9 13 (by assumption) ?_
            refine tk9 14 (by assumption) ?_
            refine tk9 15 (by assumption) ?_
            refine tk9 16 (by assumption) ?_
            refine tk9 17 (by assumption) ?_
            refine tk9 18 (by assumption) ?_
            refine tk9 19 (by assumption) ?_
            refine tk9 20 (by assumption) ?_
            refine tk9 21 (by assumption) ?_
            refine wpAnyH_ready (rs := [22]) (by kernel_rfl) (by simp) ?_
            refine AllReadyH.cons rfl (fun K hK => ?_) AllReadyH.nil
            try go_simp
            (go_at_call 100; refine (HBd.out _).mono ?_; rintro e w5 ⟨rfl, b5⟩; have k5 : Below W1.heap.size W1 w5 := (by refine trans9 ?_ b5; (repeat' first | assumption | exact Below.refl _ _ | exact Nat.le_refl _ | apply kp_alloc | apply kp_set | apply Below.drew | omega)))
            refine hK.out _ _ ?_ (fun hHeld => ?_)
            · first | assumption | exact Below.drew (by assumption)
            clear hK K
            try simp only [Act.put, List.setIfInBounds_toArray, List.set_cons_zero, List.set_cons_succ]
            refine tk9 23 (by assumption) ?_
            refine tk9 24 (by assumption) ?_
            refine tk9 25 (by assumption) ?_
            refine tk9 26 (by assumption) ?_
            refine wpAnyH_ready (rs := [27]) (by kernel_rfl) (by simp) ?_
            refine AllReadyH.cons rfl (fun K hK => ?_) AllReadyH.nil
            try go_simp
            (go_at_call 101; refine (HVl.out _).mono ?_; rintro e w6 ⟨rfl, b6⟩; have k6 : Below W1.heap.size W1 w6 := (by refine trans9 ?_ b6; (repeat' first | assumption | exact Below.refl _ _ | exact Nat.le_refl _ | apply kp_alloc | apply kp_set | apply Below.drew | omega)))
            refine hK.out _ _ ?_ (fun hHeld => ?_)
            · first | assumption | exact Below.drew (by assumption)
            clear hK K
            try simp only [Act.put, List.setIfInBounds_toArray, List.set_cons_zero, List.set_cons_succ]
            refine tk9 28 (by assumption) ?_
            refine tk9 29 (by assumption) ?_
            refine tk9 30 (by assumption) ?_
            refine wpAnyH_ready (rs := [31]) (by kernel_rfl) (by simp) ?_
            refine AllReadyH.cons rfl (fun K hK => ?_) AllReadyH.nil
            try go_simp
            (go_at_call 102; refine (HTm.out _ (by first | assumption | exact Below.refl _ _ | (repeat' first | assumption | exact Below.refl _ _ | apply kp_alloc | apply Below.drew))).mono ?_; rintro e w7 ⟨rfl, b7⟩; have k7 : Below W1.heap.size W1 w7 := (by refine trans9 ?_ b7; (repeat' first | assumption | exact Below.refl _ _ | exact Nat.le_refl _ | apply kp_alloc | apply kp_set | apply Below.drew | omega)))
            refine hK.out _ _ ?_ (fun hHeld => ?_)
            · first | assumption | exact Below.drew (by assumption)
            clear hK K
            try simp only [Act.put, List.setIfInBounds_toArray, List.set_cons_zero, List.set_cons_succ]
            refine tk9 32 (by assumption) ?_
            refine tk9 33 (by assumption) ?_
            refine tk9 34 (by assumption) ?_
            refine wpAnyH_ready (rs := [35]) (by kernel_rfl) (by simp) ?_
            refine AllReadyH.cons rfl (fun K hK => ?_) AllReadyH.nil
            try go_simp
            (go_at_call 103; refine (HHl.out _ (by first | assumption | exact Below.refl _ _ | (repeat' first | assumption | exact Below.refl _ _ | apply kp_alloc | apply Below.drew))).mono ?_; rintro e w8 ⟨rfl, b8⟩; have k8 : Below W1.heap.size W1 w8 := (by refine trans9 ?_ b8; (repeat' first | assumption | exact Below.refl _ _ | exact Nat.le_refl _ | apply kp_alloc | apply kp_set | apply Below.drew | omega)))
            refine hK.out _ _ ?_ (fun hHeld => ?_)
            · first | assumption | exact Below.drew (by assumption)
            clear hK K
            try simp only [Act.put, List.setIfInBounds_toArray, List.set_cons_zero, List.set_cons_succ]
            refine tk9 36 (by assumption) ?_
            refine tk9 37 (by assumption) ?_
            refine tk9 38 (by assumption) ?_
            refine wpAnyH_done (by kernel_rfl) ?_ _
            refine NoPanic.normal ?_
            go_wp2_with fail
            go_ret
            refine ⟨by first | rfl | (rw [E1.out]; rfl) | (simp; done) | (cases H <;> rfl), trans9 HB.out ?_⟩
            (repeat' first | assumption | exact Below.refl _ _ | exact Nat.le_refl _ | apply kp_alloc | apply kp_set | apply Below.drew | omega)
    · have d1 : (ro == 1) = false := by simpa using h1
      have e1 : decide (ro = 1) = false := decide_eq_false h1
      have E1 := Lib.hid e1
      clear h1 e1
      refine wp_region_noPanic ?_
      refine wp_region_held_drew (S := fun z => Below W1.heap.size W1 z) (by kernel_rfl) ?_ (fun hHeld => ?_)
      · exact Below.drew (Below.refl _ _)
      refine tk9 0 (by assumption) ?_
      refine tk9 2 (by assumption) ?_
      refine tk9 3 (by assumption) ?_
      refine wpAnyH_ready (rs := [1]) (by kernel_rfl) (by simp) ?_
      refine AllReadyH.cons rfl (fun K hK => ?_) AllReadyH.nil
      try go_simp
      (go_at_call 98; refine (HRo.out _).mono ?_; rintro e w2 ⟨⟨vr, rfl, hvr⟩, b2⟩; have k2 : Below W1.heap.size W1 w2 := (by refine trans9 ?_ b2; (repeat' first | assumption | exact Below.refl _ _ | exact Nat.le_refl _ | apply kp_alloc | apply kp_set | apply Below.drew | omega)))
      refine hK.out _ _ ?_ (fun hHeld => ?_)
      · first | assumption | exact Below.drew (by assumption)
      clear hK K
      try simp only [Act.put, List.setIfInBounds_toArray, List.set_cons_zero, List.set_cons_succ]
      refine wpAnyH_ready (rs := [4]) (by kernel_rfl) (by simp) ?_
      refine AllReadyH.cons rfl (fun K hK => ?_) AllReadyH.nil
      try go_simp
      (go_at_call 97; refine (HCn.out _ _ (by first | exact hvr | exact NoRow.below hvr (by first | assumption | exact Below.drew (Below.refl _ _)))).mono ?_; rintro e w3 ⟨rfl, rfl⟩)
      refine hK.out _ _ ?_ (fun hHeld => ?_)
      · first | assumption | exact Below.drew (by assumption)
      clear hK K
      try simp only [Act.put, List.setIfInBounds_toArray, List.set_cons_zero, List.set_cons_succ]
      refine tk9 5 (by assumption) ?_
      refine tk9 6 (by assumption) ?_
      refine tk9 7 (by assumption) ?_
      refine wpAnyH_ready (rs := [8]) (by kernel_rfl) (by simp) ?_
      refine AllReadyH.cons rfl (fun K hK => ?_) AllReadyH.nil
      try go_simp
      (go_at_call 99; refine (HLg.out _ (by first | assumption | exact Below.refl _ _ | (repeat' first | assumption | exact Below.refl _ _ | apply kp_alloc | apply Below.drew))).mono ?_; rintro e w4 ⟨rfl, b4⟩; have k4 : Below W1.heap.size W1 w4 := (by refine trans9 ?_ b4; (repeat' first | assumption | exact Below.refl _ _ | exact Nat.le_refl _ | apply kp_alloc | apply kp_set | apply Below.drew | omega)))
      refine hK.out _ _ ?_ (fun hHeld => ?_)
      · first | assumption | exact Below.drew (by assumption)
      clear hK K
      try simp only [Act.put, List.setIfInBounds_toArray, List.set_cons_zero, List.set_cons_succ]
      refine tk9 9 (by assumption) ?_
      refine tk9 10 (by assumption) ?_
      refine tk9 11 (by assumption) ?_
      refine tk9 12 (by assumption) ?_
      refine tk9 13 (by assumption) ?_
      refine tk9 14 (by assumption) ?_
      refine tk9 15 (by assumption) ?_
      refine tk9 16 (by assumption) ?_
      refine tk9 17 (by assumption) ?_
      refine tk9 18 (by assumption) ?_
      refine tk9 19 (by assumption) ?_
      refine tk9 20 (by assumption) ?_
      refine tk9 21 (by assumption) ?_ (v := undef) (hy := Or.inr ⟨by rfl, rfl⟩)
      refine tk9 22 (by assumption) ?_ (v := undef) (hy := Or.inr ⟨by rfl, rfl⟩)
      refine tk9 23 (by assumption) ?_
      refine tk9 24 (by assumption) ?_
      refine tk9 25 (by assumption) ?_ (v := undef) (hy := Or.inr ⟨by rfl, rfl⟩)
      refine tk9 26 (by assumption) ?_ (v := undef) (hy := Or.inr ⟨by rfl, rfl⟩)
      refine tk9 27 (by assumption) ?_ (v := undef) (hy := Or.inr ⟨by rfl, rfl⟩)
      refine tk9 28 (by assumption) ?_
      refine tk9 29 (by assumption) ?_
      refine tk9 30 (by assumption) ?_ (v := undef) (hy := Or.inr ⟨by rfl, rfl⟩)
      refine tk9 31 (by assumption) ?_ (v := undef) (hy := Or.inr ⟨by rfl, rfl⟩)
      refine tk9 32 (by assumption) ?_
      refine tk9 33 (by assumption) ?_
      refine tk9 34 (by assumption) ?_ (v := undef) (hy := Or.inr ⟨by rfl, rfl⟩)
      refine tk9 35 (by assumption) ?_ (v := undef) (hy := Or.inr ⟨by rfl, rfl⟩)
      refine tk9 36 (by assumption) ?_ (v := undef) (hy := Or.inr ⟨by rfl, rfl⟩)
      refine tk9 37 (by assumption) ?_
      refine tk9 38 (by assumption) ?_
      refine wpAnyH_done (by kernel_rfl) ?_ _
      refine NoPanic.normal ?_
      go_wp2_with fail
      go_ret
      refine ⟨by first | rfl | (rw [E1.out]; rfl) | (simp; done) | (cases H <;> rfl), trans9 HB.out ?_⟩
      (repeat' first | assumption | exact Below.refl _ _ | exact Nat.le_refl _ | apply kp_alloc | apply kp_set | apply Below.drew | omega)


end Go.Proofs.YtjeefgamkoeiaaaGreatDoor
