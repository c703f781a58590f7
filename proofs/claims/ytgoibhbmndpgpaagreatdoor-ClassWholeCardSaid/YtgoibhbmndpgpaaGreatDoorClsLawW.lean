/- The walk of the law ClassWhole (layer 16). -/
import Derived.Test.YtgoibhbmndpgpaaGreatDoorClsC
import Derived.Test.YtgoibhbmndpgpaaGreatDoorBatW
import Derived.Test.YtgoibhbmndpgpaaGreatDoorRfC
import Derived.Deep.RegionHeld3
import Derived.Deep.DrawnRows
import Derived.Deep.DeepCutAuto
set_option maxRecDepth 100000
set_option linter.unusedVariables false
set_option linter.unusedSimpArgs false
namespace Go.Proofs.YtgoibhbmndpgpaaGreatDoor
open Go.RowKit Go.Sort Dc
attribute [local go_sem ↓] Go.wp_at_zero Go.wp_at_succ

/-- one family of a row, by itself -/
theorem FmRow.one {w : World} {b off n cap : Nat} {F : List Fs} {i : Nat} {x : Fs} (h : FmRow w (.slice (some ⟨b, off, none⟩) n cap) F) (hx : F[i]? = some x) : FmRow w (.slice (some ⟨b, off + i * 5, none⟩) 1 (cap - i)) [x] := by
  obtain ⟨hi, rfl⟩ := List.getElem?_eq_some_iff.1 hx
  obtain ⟨A, cap', he, hlc, hcm, _, hr⟩ := h.1
  obtain ⟨rfl, _, rfl⟩ := Value.slice.inj he
  obtain ⟨b', off', he', hb, hc⟩ := hr (by omega)
  obtain ⟨rfl, rfl⟩ : b = b' ∧ off = off' := by
    have h1 := Option.some.inj he'
    exact ⟨congrArg Addr.block h1, congrArg Addr.off h1⟩
  refine ⟨⟨_, cap - i, rfl, by simp; omega, by omega, (by rintro ⟨⟩), fun _ => ⟨b, off + i * 5, rfl, hb, fun j y hy k u hu => ?_⟩⟩, fun y hy => ?_⟩
  · have hj : j = 0 := by have := (List.getElem?_eq_some_iff.1 hy).1; simp at this; omega
    subst hj
    obtain rfl : F[i] = y := by simpa using hy
    have := hc i F[i] hx k u hu
    rw [Nat.zero_mul, Nat.add_zero]
    exact this
  · rw [List.mem_singleton.1 hy]; exact h.2 _ (List.getElem_mem hi)
/-- the first family that can't be said, family by family -/
theorem Kl.step {p : Int} {t : List UInt8} {F : List Fp} (hc : chk t F = 0) (hp : 1 ≤ p ∧ p ≤ 4) {i : Nat} {x : Fp} (hx : F[i]? = some x) :
    Kl.whyF p (F.take (i + 1)) = if (Kl.whyF p (F.take i)).2 = true then (if (Kl.why p t [x]).2 = true then ([], true) else (x.1.n, false)) else Kl.whyF p (F.take i) := by
  obtain ⟨hi, rfl⟩ := List.getElem?_eq_some_iff.1 hx
  rw [Kl.why_one hc hp (List.getElem_mem hi), List.take_succ_eq_append_getElem hi]
  generalize F.take i = G
  generalize F[i] = x
  induction G with
  | nil => simp [Kl.whyF]
  | cons y G ih =>
    rw [List.cons_append, Kl.whyF, Kl.whyF]
    split
    · exact ih
    · simp
theorem Kl.whyF_name {p : Int} : ∀ {F : List Fp}, (Kl.whyF p F).2 = true → (Kl.whyF p F).1 = []
  | [], _ => rfl
  | x :: F, h => by
    unfold Kl.whyF at h ⊢
    split at h
    · rename_i k
      rw [if_pos k]; exact Kl.whyF_name h
    · cases h

set_option maxHeartbeats 16000000 in
theorem clswhole_walk (t : List UInt8) (F : List Fs) (v : Value) (how : Int) (w : World) (hv : FmRow w v F) (ht : t.length ≤ maxLen) (hh0 : 0 ≤ how) (hh1 : how ≤ 255) (hC : ClsC w) (hK : ∀ X, Below w.heap.size w X → Calls Tryz.prog 5 #[] X fun e w' => e = .returned (.bool true) ∧ Below X.heap.size X w') :
    Calls Tryz.prog 4 #[batv t v, .int .u8 how] w fun e w' => e = .returned (.bool true) ∧ Below w.heap.size w w' := by
  have k0 := kp_alloc (Below.refl w.heap.size w) (.cells #[.string (str t), v] 24)
  have K0 := Lib.hid k0
  have B0 := Lib.hid (BatAt.new w t v 24)
  have R0 := Lib.hid (hv.below k0)
  have HC := Lib.hid hC
  have hT0 := Lib.hid (hK _ k0)
  have HTL := Lib.hid ht
  obtain ⟨A, n, cap, hv1⟩ : ∃ A n cap, v = .slice A n cap := by obtain ⟨A, cap, he, _⟩ := hv.1; exact ⟨A, _, cap, he⟩
  have hnl : n = F.length := by obtain ⟨A1, cap1, he, _⟩ := hv.1; rw [hv1] at he; exact (Value.slice.inj he).2.1
  subst hv1
  subst hnl
  clear k0 hv hC hK
  obtain ⟨q, hq, hq4⟩ : ∃ q : Nat, how % 4 = (q : Int) ∧ q < 4 := ⟨(how % 4).toNat, by omega, by omega⟩
  have t1 : how.tmod 4 = (q : Int) := by rw [Int.tmod_eq_emod_of_nonneg hh0]; exact hq
  have t2 : IntKind.u8.wrap (q : Int) = (q : Int) := IntWalk.u8_in _ (by omega)
  have t3 : IntKind.i64.wrap (q : Int) = (q : Int) := IntWalk.i64_in _ (by omega)
  have t4 : IntKind.i64.wrap (1 + (q : Int)) = 1 + (q : Int) := IntWalk.i64_in _ (by omega)
  have HP : Hid (1 ≤ 1 + (q : Int) ∧ 1 + (q : Int) ≤ 4) := Lib.hid (by omega)
  clear hq4
  go_enter Tryz.func4, Tryz.ntmps4
  go_wp2_with fail
  refine hT0.out.mono ?_; rintro e w1 ⟨rfl, b1⟩
  have K1 := Lib.hid (trans9 K0.out b1)
  have B1 := Lib.hid (B0.out.below b1)
  have R1 := Lib.hid (R0.out.below b1)
  clear b1 hT0 K0 B0 R0
  obtain ⟨x0, x1, xf, xl⟩ := B1.out
  go_wp2_with fail
  refine (wide_calls t F _ _ R1.out).mono ?_; rintro e w2 ⟨hW, b2⟩
  have K2 := Lib.hid (trans9 K1.out b2)
  have B2 := Lib.hid (B1.out.below b2)
  have R2 := Lib.hid (R1.out.below b2)
  clear b2 K1 B1 R1 x0 x1 xf xl
  obtain ⟨x0, x1, xf, xl⟩ := B2.out
  rcases hW.ways with rfl | ⟨rfl, hfew⟩
  · go_wp2
    go_ret
    exact ⟨rfl, K2.out⟩
  have HF := Lib.hid hfew
  clear hfew
  go_wp2_with fail
  refine (rcheck_calls t F _ _ R2.out HF.out HTL.out).mono ?_; rintro e w3 ⟨rfl, b3⟩
  have K3 := Lib.hid (trans9 K2.out b3)
  have B3 := Lib.hid (B2.out.below b3)
  have R3 := Lib.hid (R2.out.below b3)
  clear b3 K2 B2 R2 x0 x1 xf xl
  obtain ⟨x0, x1, xf, xl⟩ := B3.out
  by_cases hc : chk t (fms F) = 0
  rotate_left
  · have dz : decide (chk t (fms F) = 0) = false := decide_eq_false hc
    have bz : (chk t (fms F) == 0) = false := by simpa using hc
    generalize chk t (fms F) = zz at *
    go_wp2
    go_ret
    exact ⟨rfl, K3.out⟩
  rw [hc]
  have hwy := Lib.hid (Kl.why_yes hc HP.out)
  have HS := Lib.hid (fun (i : Nat) (x : Fp) (hx : (fms F)[i]? = some x) => Kl.step hc HP.out hx)
  obtain ⟨A', cap', he', hlc, hcm, _, hrow⟩ := R3.out.1
  obtain ⟨rfl, _, rfl⟩ := Value.slice.inj he'
  unfold maxLen at hcm
  have HR := Lib.hid hrow
  clear hrow he' hc hh0 hh1 hq hW
  go_wp2_with fail
  go_loopw [6, 7, 8] (fun a b s wr => ∃ i : Nat, i ≤ F.length ∧ a = .string (str (Kl.whyF (1 + (q : Int)) ((fms F).take i)).1) ∧ b = .bool (Kl.whyF (1 + (q : Int)) ((fms F).take i)).2 ∧ s = .int .i64 (i : Nat) ∧ Hid (Below w3.heap.size w3 wr)) (fun _ _ s _ => F.length - (intOf s).toNat)
  case atStart => exact ⟨0, Nat.zero_le _, rfl, rfl, rfl, Lib.hid (Below.refl _ _)⟩
  case round =>
    obtain ⟨i, hi, rfl, rfl, rfl, HB⟩ := hrel
    obtain ⟨x0, x1, xf, xl⟩ := B3.out.below HB.out
    by_cases hil : i < F.length
    · obtain ⟨b, off, rfl, hbs, hcc⟩ := HR.out (by omega)
      obtain ⟨x, hx, hxp⟩ := fs_get hil
      obtain ⟨c0, c1, c2, c3, c4⟩ := fr_cells hcc hx
      have hst := HS.out i (fm x) hxp
      have hcl := Lib.hid (fun W (h : Below wr.heap.size wr W) => HC.out.is (1 + (q : Int)) t [x] _ W (trans9 K3.out (trans9 HB.out h)) ((R3.out.below (trans9 HB.out h)).one hx) ⟨by simp, fun y hy => by rw [List.mem_singleton.1 hy]; exact HF.out.p x (List.mem_of_getElem? hx), fun y hy => by rw [List.mem_singleton.1 hy]; exact HF.out.l x (List.mem_of_getElem? hx)⟩ HTL.out)
      have c0' := (HB.out.cell (p := ⟨b, off + i * 5, none⟩) hbs).trans c0
      have hC0 := Lib.hid (fun W (h : Below wr.heap.size wr W) => ((trans9 HB.out h).cell (p := ⟨b, off + i * 5, none⟩) hbs).trans c0)
      have r0 : ∀ y, Below wr.heap.size wr y → y.cell? ⟨w.heap.size, 0, none⟩ = some (.string (str t)) := fun y h => (h.cell (p := ⟨w.heap.size, 0, none⟩) xl).trans x0
      have r1 : ∀ y, Below wr.heap.size wr y → y.cell? ⟨w.heap.size, 1, none⟩ = some (.slice (some ⟨b, off, none⟩) F.length cap) := fun y h => (h.cell (p := ⟨w.heap.size, 1, none⟩) xl).trans x1
      obtain ⟨⟨xn, xk, xu, xh⟩, xv, L⟩ := x
      rw [show fms [(⟨⟨xn, xk, xu, xh⟩, xv, L⟩ : Fs)] = [fm ⟨⟨xn, xk, xu, xh⟩, xv, L⟩] from rfl] at hcl
      simp only at hC0
      have hname : (fm ⟨⟨xn, xk, xu, xh⟩, xv, L⟩).1.n = xn := rfl
      rw [hname] at hst
      have hnm0 := Kl.whyF_name (p := (1 + (q : Int))) (F := (fms F).take i)
      have hk0 : (0 : Int) ≤ (i : Int) := by omega
      have hkb : (i : Int) < (F.length : Int) := by omega
      have hkc : (i : Int) + 1 ≤ (cap : Int) := by omega
      have hk1 : (0 : Int) ≤ (i : Int) + 1 := by omega
      have hci : ¬ cap = i := by omega
      have hw1 : IntKind.i64.wrap ((i : Int) + 1) = (i : Int) + 1 := IntWalk.i64_in _ (by omega)
      clear hcc c0 c1 c2 c3 c4 hx hxp c0'
      generalize Kl.why (1 + (q : Int)) t [fm ⟨⟨xn, xk, xu, xh⟩, xv, L⟩] = R at *
      generalize Kl.whyF (1 + (q : Int)) ((fms F).take i) = S0 at *
      obtain ⟨s0, s1⟩ := S0
      obtain ⟨ra, rb⟩ := R
      simp only at hst hnm0 hcl ⊢
      have HST := Lib.hid hst
      have HNM := Lib.hid hnm0
      clear hst hnm0
      go_wp2_with fail
      generalize wr = W2 at *
      cases s1 with
      | false =>
        have hn : Hid (Kl.whyF (1 + (q : Int)) ((fms F).take (i + 1)) = (s0, false)) := Lib.hid (by rw [HST.out]; rfl)
        refine wp_region_noPanic ?_
        refine wp_region_held_drew (S := fun X => Below W2.heap.size W2 X) (by kernel_rfl) ?_ (fun hHeld => ?_)
        · exact Below.drew (Below.refl _ _)
        have kB : Below W2.heap.size W2 W2.drew := Below.drew (Below.refl _ _)
        clear hHeld
        refine tk9 0 kB ?_
        refine tk9 1 kB ?_
        refine tk9 2 kB ?_ (hy := Or.inl ⟨by rfl, by intro x hSw; (try dsimp only at hSw); have y0 := r0 x hSw; first | (go_simp; done) | (go_simp; with_reducible rfl)⟩)
        refine tk9 3 kB ?_
        refine tk9 4 kB ?_ (hy := Or.inl ⟨by rfl, by intro x hSw; (try dsimp only at hSw); have y1 := r1 x hSw; first | (go_simp; done) | (go_simp; with_reducible rfl)⟩)
        refine tk9 5 kB ?_
        refine tk9 6 kB ?_
        refine tk9 7 kB ?_
        refine tk9 8 kB ?_
        refine tk9 9 kB ?_
        refine wpAnyH_ready (rs := [10]) (by kernel_rfl) (by simp) ?_
        refine AllReadyH.cons (by simp only [List.getElem?_toArray, List.getElem?_cons_succ, List.getElem?_cons_zero]; rfl) (fun K hK => ?_) AllReadyH.nil
        try go_simp
        refine (hcl.out _ kB).mono ?_
        rintro e w12 ⟨rfl, b12⟩
        replace kB := trans9 kB b12
        clear b12
        refine hK.out _ _ kB (fun hHeld => ?_)
        clear hK K hHeld
        (try simp only [Act.put, List.setIfInBounds_toArray, List.set_cons_zero, List.set_cons_succ])
        refine tk9 11 kB ?_
        refine wpAnyH_done (by kernel_rfl) ?_ _
        refine NoPanic.normal ?_
        have HBn := Lib.hid (trans9 HB.out kB)
        clear r0 r1 hcl
        clear hC0 HNM HST
        go_wp2_with fail
        go_roundw
        case rel => exact ⟨i + 1, hil, by rw [hn.out], by rw [hn.out], by go_num, HBn⟩
        case measure => simp [intOf]; omega
      | true =>
        have hs0 : s0 = [] := HNM.out rfl
        subst hs0
        cases rb with
        | true =>
          have hn : Hid (Kl.whyF (1 + (q : Int)) ((fms F).take (i + 1)) = ([], true)) := Lib.hid (by rw [HST.out]; rfl)
          refine wp_region_noPanic ?_
          refine wp_region_held_drew (S := fun X => Below W2.heap.size W2 X) (by kernel_rfl) ?_ (fun hHeld => ?_)
          · exact Below.drew (Below.refl _ _)
          have kB : Below W2.heap.size W2 W2.drew := Below.drew (Below.refl _ _)
          clear hHeld
          refine tk9 0 kB ?_
          refine tk9 1 kB ?_
          refine tk9 2 kB ?_ (hy := Or.inl ⟨by rfl, by intro x hSw; (try dsimp only at hSw); have y0 := r0 x hSw; first | (go_simp; done) | (go_simp; with_reducible rfl)⟩)
          refine tk9 3 kB ?_
          refine tk9 4 kB ?_ (hy := Or.inl ⟨by rfl, by intro x hSw; (try dsimp only at hSw); have y1 := r1 x hSw; first | (go_simp; done) | (go_simp; with_reducible rfl)⟩)
          refine tk9 5 kB ?_
          refine tk9 6 kB ?_
          refine tk9 7 kB ?_
          refine tk9 8 kB ?_
          refine tk9 9 kB ?_
          refine wpAnyH_ready (rs := [10]) (by kernel_rfl) (by simp) ?_
          refine AllReadyH.cons (by simp only [List.getElem?_toArray, List.getElem?_cons_succ, List.getElem?_cons_zero]; rfl) (fun K hK => ?_) AllReadyH.nil
          try go_simp
          refine (hcl.out _ kB).mono ?_
          rintro e w12 ⟨rfl, b12⟩
          replace kB := trans9 kB b12
          clear b12
          refine hK.out _ _ kB (fun hHeld => ?_)
          clear hK K hHeld
          (try simp only [Act.put, List.setIfInBounds_toArray, List.set_cons_zero, List.set_cons_succ])
          refine tk9 11 kB ?_
          refine wpAnyH_done (by kernel_rfl) ?_ _
          refine NoPanic.normal ?_
          have HBn := Lib.hid (trans9 HB.out kB)
          clear r0 r1 hcl
          clear hC0 HNM HST
          go_wp2_with fail
          go_roundw
          case rel => exact ⟨i + 1, hil, by rw [hn.out], by rw [hn.out], by go_num, HBn⟩
          case measure => simp [intOf]; omega
        | false =>
          have hn : Hid (Kl.whyF (1 + (q : Int)) ((fms F).take (i + 1)) = (xn, false)) := Lib.hid (by rw [HST.out]; rfl)
          have hr1 := Lib.hid r1
          refine wp_region_noPanic ?_
          refine wp_region_held_drew (S := fun X => Below W2.heap.size W2 X) (by kernel_rfl) ?_ (fun hHeld => ?_)
          · exact Below.drew (Below.refl _ _)
          have kB : Below W2.heap.size W2 W2.drew := Below.drew (Below.refl _ _)
          clear hHeld
          refine tk9 0 kB ?_
          refine tk9 1 kB ?_
          refine tk9 2 kB ?_ (hy := Or.inl ⟨by rfl, by intro x hSw; (try dsimp only at hSw); have y0 := r0 x hSw; first | (go_simp; done) | (go_simp; with_reducible rfl)⟩)
          refine tk9 3 kB ?_
          refine tk9 4 kB ?_ (hy := Or.inl ⟨by rfl, by intro x hSw; (try dsimp only at hSw); have y1 := r1 x hSw; first | (go_simp; done) | (go_simp; with_reducible rfl)⟩)
          refine tk9 5 kB ?_
          refine tk9 6 kB ?_
          refine tk9 7 kB ?_
          refine tk9 8 kB ?_
          refine tk9 9 kB ?_
          refine wpAnyH_ready (rs := [10]) (by kernel_rfl) (by simp) ?_
          refine AllReadyH.cons (by simp only [List.getElem?_toArray, List.getElem?_cons_succ, List.getElem?_cons_zero]; rfl) (fun K hK => ?_) AllReadyH.nil
          try go_simp
          refine (hcl.out _ kB).mono ?_
          rintro e w12 ⟨rfl, b12⟩
          replace kB := trans9 kB b12
          clear b12
          refine hK.out _ _ kB (fun hHeld => ?_)
          clear hK K hHeld
          (try simp only [Act.put, List.setIfInBounds_toArray, List.set_cons_zero, List.set_cons_succ])
          refine tk9 11 kB ?_
          refine wpAnyH_done (by kernel_rfl) ?_ _
          refine NoPanic.normal ?_
          have HBn := Lib.hid (trans9 HB.out kB)
          clear r0 r1 hcl
          have r2 := hC0.out _ kB
          have r1 := hr1.out _ kB
          clear hC0 HNM HST
          go_wp2_with fail
          go_roundw
          case rel => exact ⟨i + 1, hil, by rw [hn.out], by rw [hn.out], by go_num, HBn⟩
          case measure => simp [intOf]; omega
    · have hall : (fms F).take i = fms F := List.take_of_length_le (by simp [fms]; omega)
      rw [hall]
      have K9 := Lib.hid (trans9 K3.out HB.out)
      have R9 := Lib.hid (R3.out.below HB.out)
      have B9 := Lib.hid (B3.out.below HB.out)
      have cWy := Lib.hid (HC.out.why (1 + (q : Int)) t F _ wr K9.out R9.out HF.out HTL.out)
      rw [hwy.out] at cWy
      clear hall HS HR
      go_wp2_with fail
      refine cWy.out.mono ?_; rintro e wa ⟨rfl, ba⟩
      have Ka := Lib.hid (trans9 K9.out ba)
      have Ba := Lib.hid (B9.out.below ba)
      have cIs := Lib.hid (HC.out.is (1 + (q : Int)) t F _ wa Ka.out (R9.out.below ba) HF.out HTL.out)
      rw [hwy.out] at cIs
      clear ba cWy x0 x1 xf xl K9 R9 B9
      obtain ⟨x0, x1, xf, xl⟩ := Ba.out
      generalize Kl.whyF (1 + (q : Int)) (fms F) = RR at *
      go_wp2_with fail
      refine cIs.out.mono ?_; rintro e wb ⟨rfl, bb⟩
      have Kb := Lib.hid (trans9 Ka.out bb)
      clear bb cIs x0 x1 xf xl
      go_wp2_with fail
      go_ret
      exact ⟨by simp, Kb.out⟩

end Go.Proofs.YtgoibhbmndpgpaaGreatDoor
