/- The texts BatD, BatF, one behind the other. -/
import Derived.Test.YtgoibhbmndpgpaaGreatDoorBatP
import Derived.Test.YtgoibhbmndpgpaaGreatDoorChecked
import Derived.Test.YtgoibhbmndpgpaaGreatDoorFamY
import Derived.Shelf.LaySoft
import Derived.Test.YtgoibhbmndpgpaaGreatDoorPdW

/- The walks of slices.SortFunc at families, of package batch's ascend. -/
set_option maxRecDepth 100000
set_option linter.unusedVariables false
set_option linter.unusedSimpArgs false
namespace Go.Proofs.YtgoibhbmndpgpaaGreatDoor
open Go.RowKit Go.Sort Go.Shelf Dc
attribute [local go_sem ↓] Go.wp_at_zero Go.wp_at_succ

/-- where all blocks behind g are as they were, the points are -/
theorem FsFar.other {w X : World} {g : Nat} {x : Fs} (h : FsFar w g x) (ho : ∀ b, b < w.heap.size → b ≠ g → X.heap[b]? = w.heap[b]?) (hz : w.heap.size ≤ X.heap.size) : FsFar X g x :=
  ⟨fun Y h1 h2 => h.1 Y (fun b hlt hg => (h1 b (Nat.lt_of_lt_of_le hlt hz) hg).trans (ho b hlt (by omega))) (Nat.le_trans hz h2), h.2⟩
set_option maxHeartbeats 8000000 in
theorem bascend_calls (L : List Fs) (v : Value) (w : World) (hv : FmRow w v L) (hn : L.length ≤ 1000) :
    Calls Tryz.prog 30 #[v] w fun e w' => e = .returned (.bool (decide (StrictT cmpF (fms L)))) ∧ Below w.heap.size w w' := by
  have HP := Lib.hid hv.2
  obtain ⟨A, cap, rfl, hlc, hcm, hnil, hrow⟩ := hv.1
  unfold maxLen at hcm
  have HR := Lib.hid hrow
  clear hrow hnil hv
  go_enter Tryz.func30, Tryz.ntmps30
  go_wp2_with fail
  go_loopw [3] (fun v wr => ∃ j : Nat, v = .int .i64 ((j : Int) + 1) ∧ j ≤ L.length ∧ Hid (∀ m p q, m < j → (fms L)[m]? = some p → (fms L)[m + 1]? = some q → cmpF p q < 0) ∧ Below w.heap.size w wr) (fun v _ => L.length + 1 - (intOf v).toNat)
  case atStart => exact ⟨0, rfl, Nat.zero_le _, fun m p q hm => absurd hm (by omega), Below.refl _ _⟩
  case round =>
    obtain ⟨j, rfl, hj, H, hb⟩ := hrel
    by_cases hjl : j + 1 < L.length
    · obtain ⟨b, off, rfl, hbs, hc⟩ := HR.out (by omega)
      obtain ⟨x, hx, hxp⟩ := fs_get (show j < L.length by omega)
      obtain ⟨y, hy, hyp⟩ := fs_get hjl
      have hix := HP.out x (List.mem_of_getElem? hx)
      have hiy := HP.out y (List.mem_of_getElem? hy)
      obtain ⟨c0, c1, c2, c3, c4⟩ := fr_cells hc hx
      obtain ⟨e0, e1, e2, e3, e4⟩ := fr_cells hc hy
      have hcp := Lib.hid (fun W => fbyname_calls x y W)
      have hno := Lib.hid (fun h => strictT_no (f := cmpF) (l := fms L) (i := j) hxp hyp h)
      have hnx := Lib.hid (fun (h : cmpF (fm x) (fm y) < 0) => show ∀ m p q, m < j + 1 → (fms L)[m]? = some p → (fms L)[m + 1]? = some q → cmpF p q < 0 from fun m p q hm h1 h2 => by
        by_cases em : m = j
        · subst em
          rw [hxp] at h1
          rw [hyp] at h2
          obtain rfl := Option.some.inj h1
          obtain rfl := Option.some.inj h2
          exact h
        · exact H.out m p q (by omega) h1 h2)
      rw [show cmpF (fm x) (fm y) = cb x.hd.n y.hd.n from rfl] at hno hnx
      obtain ⟨A1, n1, cap1, hx1⟩ : ∃ A1 n1 cap1, x.v = .slice A1 n1 cap1 := by obtain ⟨_, _, h, _⟩ := hix.1.1; exact ⟨_, _, _, h⟩
      obtain ⟨A2, n2, cap2, hy1⟩ : ∃ A1 n1 cap1, y.v = .slice A1 n1 cap1 := by obtain ⟨_, _, h, _⟩ := hiy.1.1; exact ⟨_, _, _, h⟩
      have hw1 : IntKind.i64.wrap (j : Int) = (j : Int) := IntWalk.i64_in _ (by omega)
      have hw2 : IntKind.i64.wrap ((j : Int) + 1) = (j : Int) + 1 := IntWalk.i64_in _ (by omega)
      have hw3 : (j : Int) + 1 - 1 = (j : Int) := by omega
      have hj0 : (0 : Int) ≤ (j : Int) := by omega
      have hj1 : (j : Int) < (L.length : Int) := by omega
      have hj2 : (j : Int) + 1 < (L.length : Int) := by omega
      have hj3 : j < L.length := by omega
      have hj4 : (0 : Int) ≤ (j : Int) + 1 := by omega
      obtain ⟨⟨xn, xk, xu, xh⟩, xv, xL⟩ := x
      obtain ⟨⟨yn, yk, yu, yh⟩, yv, yL⟩ := y
      simp only at hx1 hy1
      subst hx1 hy1
      have hR : ∀ o u, w.cell? ⟨b, o, none⟩ = some u → ∀ z, Below w.heap.size w z → z.cell? ⟨b, o, none⟩ = some u := fun o u hu z hz => (hz.cell (p := ⟨b, o, none⟩) hbs).trans hu
      simp only at c0 c1 c2 c3 c4 e0 e1 e2 e3 e4 hno hnx hcp
      have r0 := hR _ _ c0
      have r1 := hR _ _ c1
      have r2 := hR _ _ c2
      have r3 := hR _ _ c3
      have r4 := hR _ _ c4
      have s0 := hR _ _ e0
      have s1 := hR _ _ e1
      have s2' := hR _ _ e2
      have s3 := hR _ _ e3
      have s4 := hR _ _ e4
      have HB := Lib.hid hb
      clear hc c0 c1 c2 c3 c4 e0 e1 e2 e3 e4 hR hx hy hxp hyp hix hiy hbs
      generalize cb _ _ = C at *
      by_cases hC : C < 0
      · have dC : decide ((0 : Int) ≤ C) = false := by simp; omega
        have hr := Lib.hid (hnx.out hC)
        clear hno hnx hC
        go_wp2_with fail
        go_region_held3 (fun z => Below w.heap.size w z)
          (((repeat' first | assumption | exact Below.refl _ _ | exact Nat.le_refl _ | apply kp_alloc | apply kp_set | apply Below.drew | omega); done))
          ((first
            | (go_at_call 49; refine (hcp.out _).mono ?_; rintro e w3 ⟨rfl, b3⟩; have k3 : Below w.heap.size w w3 := (by refine trans9 ?_ b3; (repeat' first | assumption | exact Below.refl _ _ | exact Nat.le_refl _ | apply kp_alloc | apply kp_set | apply Below.drew | omega)))))
        all_goals
          go_wp2_with fail
          go_roundw
          case rel => exact ⟨j + 1, by go_num, by omega, hr.out, k3⟩
          case measure => simp [intOf]; omega
      · have dC : decide ((0 : Int) ≤ C) = true := by simp; omega
        have hr := Lib.hid (decide_eq_false (hno.out hC))
        clear hno hnx hC
        go_wp2_with fail
        go_region_held3 (fun z => Below w.heap.size w z)
          (((repeat' first | assumption | exact Below.refl _ _ | exact Nat.le_refl _ | apply kp_alloc | apply kp_set | apply Below.drew | omega); done))
          ((first
            | (go_at_call 49; refine (hcp.out _).mono ?_; rintro e w3 ⟨rfl, b3⟩; have k3 : Below w.heap.size w w3 := (by refine trans9 ?_ b3; (repeat' first | assumption | exact Below.refl _ _ | exact Nat.le_refl _ | apply kp_alloc | apply kp_set | apply Below.drew | omega)))))
        all_goals
          go_wp2_with fail
          go_ret
          exact ⟨by rw [hr.out]; rfl, k3⟩
    · have hlen : (fms L).length = L.length := by simp [fms]
      have hs := Lib.hid (decide_eq_true (strictT_adj tp_cmpF (l := fms L) (fun i p q h1 h2 => by
        have := (List.getElem?_eq_some_iff.1 h2).1
        exact H.out i p q (by omega) h1 h2)))
      clear H hlen
      go_wp2
      go_ret
      exact ⟨by rw [hs.out]; rfl, hb⟩

end Go.Proofs.YtgoibhbmndpgpaaGreatDoor

/- The walks of package batch's fit, Check. -/
set_option maxRecDepth 100000
set_option linter.unusedVariables false
set_option linter.unusedSimpArgs false
namespace Go.Proofs.YtgoibhbmndpgpaaGreatDoor
open Go.RowKit Dc
attribute [local go_sem ↓] Go.wp_at_zero Go.wp_at_succ

set_option maxHeartbeats 8000000 in
theorem bfit_calls (F : List Fs) (v : Value) (w : World) (hv : FmRow w v F) (hf : FmFew F) (hT : ShPl w) :
    Calls Tryz.prog 29 #[v] w fun e w' => e = .returned (.bool ((fms F).all fun x => famOk x.1 x.2)) ∧ Below w.heap.size w w' := by
  have HP := Lib.hid hv.2
  have hn := hf.n
  obtain ⟨A, cap, rfl, hlc, hcm, hnil, hrow⟩ := hv.1
  unfold maxLen at hcm
  have HR := Lib.hid hrow
  have HT := Lib.hid hT
  have HF := Lib.hid hf
  clear hrow hnil hv hT hf
  go_enter Tryz.func29, Tryz.ntmps29
  go_wp2_with fail
  go_loopw [7] (fun v wr => ∃ k : Nat, k ≤ F.length ∧ v = .int .i64 (k : Nat) ∧ Hid (∀ m p, m < k → (fms F)[m]? = some p → famOk p.1 p.2 = true) ∧ Below w.heap.size w wr) (fun v _ => F.length - (intOf v).toNat)
  case atStart => exact ⟨0, Nat.zero_le _, rfl, fun m p hm => absurd hm (by omega), Below.refl _ _⟩
  case round =>
    obtain ⟨k, hk, rfl, H, hb⟩ := hrel
    by_cases hkl : k < F.length
    · obtain ⟨b, off, rfl, hbs, hc⟩ := HR.out (by omega)
      obtain ⟨x, hx, hxp⟩ := fs_get hkl
      have hm := List.mem_of_getElem? hx
      have hix := HP.out x hm
      obtain ⟨c0, c1, c2, c3, c4⟩ := fr_cells hc hx
      have hcp := Lib.hid (fun W (hW : Below w.heap.size w W) => fgood_calls x.hd x.L x.v W (hix.1.below hW) (HF.out.p x hm) hix.2 (shpl_below HT.out hW))
      have hno := Lib.hid (fun (h : famOk x.hd (pts x.L) = false) => show ((fms F).all fun x => famOk x.1 x.2) = false from List.all_eq_false.2 ⟨fm x, List.mem_of_getElem? hxp, by rw [show famOk (fm x).1 (fm x).2 = famOk x.hd (pts x.L) from rfl, h]; decide⟩)
      have hnx := Lib.hid (fun (h : famOk x.hd (pts x.L) = true) => show ∀ m p, m < k + 1 → (fms F)[m]? = some p → famOk p.1 p.2 = true from fun m p hm h1 => by
        by_cases em : m = k
        · subst em
          rw [hxp] at h1
          obtain rfl := Option.some.inj h1
          exact h
        · exact H.out m p (by omega) h1)
      obtain ⟨A1, n1, cap1, hx1⟩ : ∃ A1 n1 cap1, x.v = .slice A1 n1 cap1 := by obtain ⟨_, _, h, _⟩ := hix.1.1; exact ⟨_, _, _, h⟩
      obtain ⟨⟨xn, xk, xu, xh⟩, xv, xL⟩ := x
      simp only at hx1
      subst hx1
      have hR : ∀ o u, w.cell? ⟨b, o, none⟩ = some u → wr.cell? ⟨b, o, none⟩ = some u := fun o u hu => (hb.cell (p := ⟨b, o, none⟩) hbs).trans hu
      simp only at c0 c1 c2 c3 c4 hcp hno hnx
      have r0 := hR _ _ c0
      have r1 := hR _ _ c1
      have r2 := hR _ _ c2
      have r3 := hR _ _ c3
      have r4 := hR _ _ c4
      have hk1 := Lib.hid (kp_alloc hb (.cells #[.string (str xn), .int .i64 xk, .string (str xu), .string (str xh), .slice A1 n1 cap1] 39))
      generalize famOk _ _ = C at *
      clear hc c0 c1 c2 c3 c4 hR hx hxp hix hbs hb hm
      cases C with
      | true =>
        have hr := Lib.hid (hnx.out rfl)
        clear hno hnx
        go_wp2_with fail
        refine (hcp.out _ hk1.out).mono ?_; rintro e w1 ⟨rfl, b1⟩
        have kB := trans9 hk1.out b1
        clear b1
        go_wp2_with fail
        go_roundw
        case rel => exact ⟨k + 1, hkl, by go_num, hr.out, kB⟩
        case measure => simp [intOf]; omega
      | false =>
        have hr := Lib.hid (hno.out rfl)
        clear hno hnx
        go_wp2_with fail
        refine (hcp.out _ hk1.out).mono ?_; rintro e w1 ⟨rfl, b1⟩
        have kB := trans9 hk1.out b1
        clear b1
        go_wp2_with fail
        go_ret
        exact ⟨by rw [hr.out]; rfl, kB⟩
    · have hlen : (fms F).length = F.length := by simp [fms]
      have hs := Lib.hid (show ((fms F).all fun x => famOk x.1 x.2) = true from List.all_eq_true.2 (fun p hp => by
        obtain ⟨i, hi, rfl⟩ := List.getElem_of_mem hp
        exact H.out i _ (by omega) (List.getElem?_eq_getElem hi)))
      clear H hlen
      go_wp2
      go_ret
      exact ⟨by rw [hs.out]; rfl, hb⟩

/-- a batch lies in block b -/
structure BatAt (w : World) (b : Nat) (t : List UInt8) (v : Value) : Prop where
  c0 : w.cell? ⟨b, 0, none⟩ = some (.string (str t))
  c1 : w.cell? ⟨b, 1, none⟩ = some v
  fr : ∀ o, w.frozen? ⟨b, o, none⟩ = false
  lt : b < w.heap.size
theorem BatAt.below {w w' : World} {b : Nat} {t : List UInt8} {v : Value} (k : BatAt w b t v) (hb : Below w.heap.size w w') : BatAt w' b t v :=
  ⟨(hb.cell k.lt).trans k.c0, (hb.cell k.lt).trans k.c1, fun o => (hb.frozen (p := ⟨b, o, none⟩) k.lt).trans (k.fr o), Nat.lt_of_lt_of_le k.lt hb.size⟩
theorem BatAt.new (w : World) (t : List UInt8) (v : Value) (ty : TypeId) : BatAt (w.alloc (.cells #[.string (str t), v] ty)) w.heap.size t v :=
  ⟨by simp, by simp, fun o => by simp, by simp⟩
theorem BatAt.belowB {w w' : World} {b B : Nat} {t : List UInt8} {v : Value} (k : BatAt w b t v) (hb : Below B w w') (hlt : b < B) : BatAt w' b t v := by
  have e := hb.block b hlt
  exact ⟨(World.cell?_of_block (a := ⟨b, 0, none⟩) e).trans k.c0, (World.cell?_of_block (a := ⟨b, 1, none⟩) e).trans k.c1, fun o => (World.frozen?_of_block (a := ⟨b, o, none⟩) e).trans (k.fr o), Nat.lt_of_lt_of_le k.lt hb.size⟩
theorem chk_19 {t : List UInt8} {l : List Fp} (h : batOk t l = false) : chk t l = 19 := by unfold chk; rw [h]; rfl
theorem chk_14 {t : List UInt8} {l : List Fp} (h : batOk t l = true) (h2 : 30 < l.length ∨ 120 < nPts l) : chk t l = 14 := by unfold chk; rw [if_pos h, if_pos h2]

set_option maxHeartbeats 8000000 in
theorem bcheck_calls (t : List UInt8) (F : List Fs) (v : Value) (w : World) (hv : FmRow w v F) (hf : FmFew F) (ht : t.length ≤ maxLen) (hT : ShPl w) :
    Calls Tryz.prog 17 #[batv t v] w fun e w' => e = .returned (.int .i64 (chk t (fms F))) ∧ Below w.heap.size w w' := by
  have k0 := kp_alloc (Below.refl w.heap.size w) (.cells #[.string (str t), v] 24)
  have F0 := BatAt.new w t v 24
  have hN := Lib.hid (fun W => ten_calls t W ht)
  have hF := Lib.hid (fun W (hW : Below w.heap.size w W) => bfit_calls F v W (hv.below hW) hf (shpl_below hT hW))
  have hA := Lib.hid (fun W (hW : Below w.heap.size w W) => bascend_calls F v W (hv.below hW) hf.n)
  have hP := Lib.hid (fun W (hW : Below w.heap.size w W) => bpoints_calls t F v W (hv.below hW) hf)
  obtain ⟨X, hX⟩ : ∃ X, X = chk t (fms F) := ⟨_, rfl⟩
  rw [← hX]
  have hlen : (fms F).length = F.length := by simp [fms]
  have hbo : batOk t (fms F) = (tenOk t && (fms F).all (fun x => famOk x.1 x.2) && decide (StrictT cmpF (fms F))) := rfl
  have e19 := Lib.hid (fun h => hX.trans (chk_19 h))
  have e14 := Lib.hid (fun h h2 => hX.trans (chk_14 h h2))
  have e0 := Lib.hid (fun h h2 h3 => hX.trans (chk_is h h2 h3))
  rw [hbo, hlen] at e14 e0
  rw [hbo] at e19
  clear hX hbo hlen
  generalize tenOk t = b1 at *
  generalize ((fms F).all fun x => famOk x.1 x.2) = b2 at *
  generalize decide (StrictT cmpF (fms F)) = b3 at *
  generalize nPts (fms F) = np at *
  obtain ⟨A, cap, hv1⟩ : ∃ A cap, v = .slice A F.length cap := by obtain ⟨A, cap, h, _⟩ := hv.1; exact ⟨A, cap, h⟩
  subst hv1
  generalize F.length = len at *
  have K0 := Lib.hid k0
  have HF0 := Lib.hid F0
  clear hv hT hf k0 F0 ht
  go_enter Tryz.func17, Tryz.ntmps17
  go_wp2_with fail
  refine (hN.out _).mono ?_; rintro e w99 ⟨rfl, rfl⟩
  cases b1 with
  | false =>
    go_wp2
    go_ret
    exact ⟨by rw [e19.out (by first | rfl | trivial | simp)]; rfl, K0.out⟩
  | true =>
    go_wp2_with fail
    refine (hF.out _ K0.out).mono ?_; rintro e w2 ⟨rfl, c2⟩
    have K2 := Lib.hid (trans9 K0.out c2)
    have HF2 := Lib.hid (HF0.out.below c2)
    obtain ⟨x20, x21, _, _⟩ := HF2.out
    clear c2
    cases b2 with
    | false =>
      go_wp2
      go_ret
      exact ⟨by rw [e19.out (by first | rfl | trivial | simp)]; rfl, K2.out⟩
    | true =>
      go_wp2_with fail
      refine (hA.out _ K2.out).mono ?_; rintro e w3 ⟨rfl, c3⟩
      have K3 := Lib.hid (trans9 K2.out c3)
      have HF3 := Lib.hid (HF2.out.below c3)
      clear x20 x21
      obtain ⟨x30, x31, _, _⟩ := HF3.out
      clear c3
      cases b3 with
      | false =>
        go_wp2
        go_ret
        exact ⟨by rw [e19.out (by first | rfl | trivial | simp)]; rfl, K3.out⟩
      | true =>
        by_cases h30 : (30 : Int) < (len : Int)
        · have d30 : decide ((30 : Int) < (len : Int)) = true := decide_eq_true h30
          have d30' : decide (30 < len) = true := by simp; omega
          have hr := Lib.hid (e14.out (by first | rfl | trivial | simp) (Or.inl (by omega)))
          clear h30
          go_wp2
          go_ret
          exact ⟨by rw [hr.out]; rfl, K3.out⟩
        · have d30 : decide ((30 : Int) < (len : Int)) = false := decide_eq_false h30
          have d30' : decide (30 < len) = false := by simp; omega
          have h30n : len ≤ 30 := by omega
          clear h30
          have H30 := Lib.hid h30n
          clear h30n
          go_wp2_with fail
          refine (hP.out _ K3.out).mono ?_; rintro e w4 ⟨rfl, c4⟩
          have K4 := Lib.hid (trans9 K3.out c4)
          have HF4 := Lib.hid (HF3.out.below c4)
          clear x30 x31
          obtain ⟨x40, x41, _, _⟩ := HF4.out
          clear c4
          by_cases h120 : (120 : Int) < (np : Int)
          · have d120 : decide ((120 : Int) < (np : Int)) = true := decide_eq_true h120
            have d120' : decide (120 < np) = true := by simp; omega
            have hr := Lib.hid (e14.out (by first | rfl | trivial | simp) (Or.inr (by omega)))
            clear h120
            go_wp2
            go_ret
            exact ⟨by rw [hr.out]; rfl, K4.out⟩
          · have d120 : decide ((120 : Int) < (np : Int)) = false := decide_eq_false h120
            have d120' : decide (120 < np) = false := by simp; omega
            have hr := Lib.hid (e0.out (by first | rfl | trivial | simp) H30.out (by omega))
            clear h120
            go_wp2
            go_ret
            exact ⟨by rw [hr.out]; rfl, K4.out⟩

end Go.Proofs.YtgoibhbmndpgpaaGreatDoor
