/- The walks of the reference's Why, Class (layer 16). -/
import Derived.Test.YtgoibhbmndpgpaaGreatDoorRefClsC
import Derived.Test.YtgoibhbmndpgpaaGreatDoorRfC
set_option maxRecDepth 100000
set_option linter.unusedVariables false
set_option linter.unusedSimpArgs false
namespace Go.Proofs.YtgoibhbmndpgpaaGreatDoor
open Go.RowKit Go.Sort Dc
attribute [local go_sem ↓] Go.wp_at_zero Go.wp_at_succ

set_option maxHeartbeats 16000000 in
theorem rwhy_calls (p : Int) (t : List UInt8) (F : List Fs) (v : Value) (w : World) (hv : FmRow w v F) (hf : FmFew F) (ht : t.length ≤ maxLen) :
    Calls Tryz.prog 8 #[.int .i64 p, batv t v] w fun e w' => e = .returned (.tuple #[.string (str (Kl.why p t (fms F)).1), .bool (Kl.why p t (fms F)).2]) ∧ Below w.heap.size w w' := by
  have k0 := kp_alloc (Below.refl w.heap.size w) (.cells #[.string (str t), v] 24)
  have F0 := BatAt.new w t v 24
  have HP := Lib.hid hv.2
  have hck := Lib.hid (fun W (hW : Below w.heap.size w W) => rcheck_calls t F v W (hv.below hW) hf ht)
  have hpr := Lib.hid (fun W => riproto_calls p W)
  have hfm := Lib.hid (fun W (hW : Below w.heap.size w W) (x : Fs) (hx : x ∈ F) => rfam16_calls p x.hd x.L x.v W ((hv.2 x hx).1.below hW) (hv.2 x hx).2)
  obtain ⟨A, cap, rfl, hlc, hcm, hnil, hrow⟩ := hv.1
  unfold maxLen at hcm
  have HR := Lib.hid hrow
  have K0 := Lib.hid k0
  have HF0 := Lib.hid F0
  clear hnil hv hrow hf k0 F0 ht
  go_enter Tryz.func8, Tryz.ntmps8
  go_upto_region 1 with fail
  generalize hW0 : w.alloc (.cells #[.string (str t), .slice A F.length cap] 24) = W0 at *
  clear hW0
  obtain ⟨x0, x1, xf, xl⟩ := HF0.out
  have hck0 := Lib.hid (hck.out W0 K0.out)
  clear hck
  by_cases hc : chk t (fms F) = 0
  rotate_left
  · have hr := Lib.hid (Kl.why_bad (p := p) (t := t) (F := fms F) hc)
    have dz : decide (chk t (fms F) = 0) = false := decide_eq_false hc
    have bz : (chk t (fms F) == 0) = false := by simpa using hc
    have nz : (chk t (fms F) != 0) = true := by simpa using hc
    generalize chk t (fms F) = zz at *
    clear hc
    go_wp2_with fail
    refine hck0.out.mono ?_; rintro e w1 ⟨rfl, b1⟩
    have K1 := Lib.hid (trans9 K0.out b1)
    clear b1 x0 x1 xf xl
    go_wp2
    go_ret2
    exact ⟨by rw [hr.out]; rfl, K1.out⟩
  rw [hc] at hck0
  by_cases hp : 1 ≤ p ∧ p ≤ 4
  rotate_left
  · have hr := Lib.hid (Kl.why_no (t := t) (F := fms F) hp)
    have hp0 : protoOk p = false := by unfold protoOk; rw [← Bool.decide_and]; exact decide_eq_false hp
    rw [hp0] at hpr
    clear hp hp0 hc
    go_wp2_with fail
    refine hck0.out.mono ?_; rintro e w1 ⟨rfl, b1⟩
    have K1 := Lib.hid (trans9 K0.out b1)
    clear b1 x0 x1 xf xl
    go_wp2_with fail
    refine (hpr.out _).mono ?_; rintro e w2 ⟨rfl, rfl⟩
    go_wp2
    go_ret2
    exact ⟨by rw [hr.out]; rfl, K1.out⟩
  have hp0 : protoOk p = true := by unfold protoOk; rw [← Bool.decide_and]; exact decide_eq_true hp
  rw [hp0] at hpr
  have hwy := Lib.hid (Kl.why_yes hc hp)
  clear hp hp0 hc
  go_wp2_with fail
  refine hck0.out.mono ?_; rintro e w1 ⟨rfl, b1⟩
  have K1 := Lib.hid (trans9 K0.out b1)
  have HF1 := Lib.hid (HF0.out.below b1)
  clear b1 x0 x1 xf xl hck0
  go_wp2_with fail
  refine (hpr.out _).mono ?_; rintro e w2 ⟨rfl, rfl⟩
  clear hpr
  go_wp2_with fail
  go_loopw [6] (fun s wr => ∃ i : Nat, i ≤ F.length ∧ s = .int .i64 (i : Nat) ∧ Hid (∀ y ∈ (fms F).take i, Kl.fam p y = true) ∧ Below w1.heap.size w1 wr) (fun s _ => F.length - (intOf s).toNat)
  case atStart => exact ⟨0, Nat.zero_le _, rfl, Lib.hid (fun y hy => by cases hy), Below.refl _ _⟩
  case round =>
    obtain ⟨i, hi, rfl, H, hb⟩ := hrel
    obtain ⟨x0, x1, xf, xl⟩ := HF1.out.below hb
    have HB := Lib.hid (trans9 K1.out hb)
    by_cases hil : i < F.length
    · obtain ⟨b, off, rfl, hbs, hc⟩ := HR.out (by omega)
      obtain ⟨x, hx, hxp⟩ := fs_get hil
      have hmx := List.mem_of_getElem? hx
      obtain ⟨c0, c1, c2, c3, c4⟩ := fr_cells hc hx
      have hcl := Lib.hid (hfm.out wr HB.out x hmx)
      have hno := Lib.hid (fun (h : Kl.fam p (fm x) = false) => Kl.whyF_at H.out hxp h)
      have hnx := Lib.hid (fun (h : Kl.fam p (fm x) = true) => Lg.all_take (P := fun y => Kl.fam p y = true) H.out hxp h)
      have hR1 : ∀ o u, w.cell? ⟨b, o, none⟩ = some u → wr.cell? ⟨b, o, none⟩ = some u := fun o u hu => (HB.out.cell (p := ⟨b, o, none⟩) hbs).trans hu
      have r0 := hR1 _ _ c0
      have r1 := hR1 _ _ c1
      have r2 := hR1 _ _ c2
      have r3 := hR1 _ _ c3
      have r4 := hR1 _ _ c4
      have hbw : b < wr.heap.size := Nat.lt_of_lt_of_le hbs HB.out.size
      have hBB := Lib.hid hb
      obtain ⟨⟨xn, xk, xu, xh⟩, xv, L⟩ := x
      simp only at r0 r1 r2 r3 r4 hcl hno hnx
      clear hc c0 c1 c2 c3 c4 hR1 hx hxp hmx hb
      cases hN : Kl.fam p (fm ⟨⟨xn, xk, xu, xh⟩, xv, L⟩)
      · rw [hN] at hcl
        have hr := Lib.hid (hwy.out.trans (hno.out hN))
        clear hno hnx hN
        go_wp2_with fail
        refine hcl.out.mono ?_; rintro e w3 ⟨rfl, b3⟩
        have r0' := (b3.cell (p := ⟨b, off + i * 5, none⟩) hbw).trans r0
        have x1' := (b3.cell (p := ⟨w.heap.size, 1, none⟩) xl).trans x1
        have K3 := Lib.hid (trans9 HB.out b3)
        clear b3 r0 r1 r2 r3 r4 x0 x1 xf xl hcl
        go_wp2
        go_ret2
        exact ⟨by rw [hr.out]; rfl, K3.out⟩
      · rw [hN] at hcl
        have hr := Lib.hid (hnx.out hN)
        clear hno hnx hN
        go_wp2_with fail
        refine hcl.out.mono ?_; rintro e w3 ⟨rfl, b3⟩
        have K3 := Lib.hid (trans9 hBB.out b3)
        clear b3 r0 r1 r2 r3 r4 x0 x1 xf xl hcl
        go_wp2
        go_roundw
        case rel => exact ⟨i + 1, hil, by go_num, hr.out, K3.out⟩
        case measure => simp [intOf]; omega
    · have hr := Lib.hid (hwy.out.trans (Kl.whyF_all H.out (by simp [fms]; omega)))
      go_wp2
      go_ret2
      exact ⟨by rw [hr.out]; rfl, HB.out⟩

set_option maxHeartbeats 4000000 in
theorem rclass_calls (p : Int) (t : List UInt8) (F : List Fs) (v : Value) (w : World) (hv : FmRow w v F) (hf : FmFew F) (ht : t.length ≤ maxLen) :
    Calls Tryz.prog 12 #[.int .i64 p, batv t v] w fun e w' => e = .returned (.bool (Kl.why p t (fms F)).2) ∧ Below w.heap.size w w' := by
  have k0 := kp_alloc (Below.refl w.heap.size w) (.cells #[.string (str t), v] 24)
  have F0 := BatAt.new w t v 24
  have hwy := Lib.hid (fun W (hW : Below w.heap.size w W) => rwhy_calls p t F v W (hv.below hW) hf ht)
  obtain ⟨A, cap, rfl, hlc, hcm, hnil, hrow⟩ := hv.1
  have K0 := Lib.hid k0
  have HF0 := Lib.hid F0
  clear hnil hv hrow hf k0 F0 ht hlc hcm
  go_enter Tryz.func12, Tryz.ntmps12
  go_upto_region 1 with fail
  generalize hW0 : w.alloc (.cells #[.string (str t), .slice A F.length cap] 24) = W0 at *
  clear hW0
  obtain ⟨x0, x1, xf, xl⟩ := HF0.out
  have hw0 := Lib.hid (hwy.out W0 K0.out)
  clear hwy
  go_wp2_with fail
  refine hw0.out.mono ?_; rintro e w1 ⟨rfl, b1⟩
  have K1 := Lib.hid (trans9 K0.out b1)
  clear b1 x0 x1 xf xl
  go_wp2
  go_ret
  exact ⟨rfl, K1.out⟩

end Go.Proofs.YtgoibhbmndpgpaaGreatDoor
