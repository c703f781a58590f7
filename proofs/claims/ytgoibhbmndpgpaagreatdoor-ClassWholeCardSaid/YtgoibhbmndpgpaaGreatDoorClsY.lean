/- The walks of class's Why, Is; what the laws ask of class (ClsC) from them (layer 16). -/
import Derived.Test.YtgoibhbmndpgpaaGreatDoorClsF
import Derived.Test.YtgoibhbmndpgpaaGreatDoorClsC
set_option maxRecDepth 100000
set_option linter.unusedVariables false
set_option linter.unusedSimpArgs false
namespace Go.Proofs.YtgoibhbmndpgpaaGreatDoor
open Go.RowKit Go.Sort Dc
attribute [local go_sem ↓] Go.wp_at_zero Go.wp_at_succ

set_option maxHeartbeats 16000000 in
theorem cwhy_calls (p : Int) (t : List UInt8) (F : List Fs) (v : Value) (w : World) (hv : FmRow w v F) (hf : FmFew F) (ht : t.length ≤ maxLen) (hT : ChT w) (hP : ShPl w) :
    Calls Tryz.prog 7 #[.int .i64 p, batv t v] w fun e w' => e = .returned (.tuple #[.string (str (Kl.why p t (fms F)).1), .bool (Kl.why p t (fms F)).2]) ∧ Below w.heap.size w w' := by
  have k0 := kp_alloc (Below.refl w.heap.size w) (.cells #[.string (str t), v] 24)
  have F0 := BatAt.new w t v 24
  have hck := Lib.hid (fun W (hW : Below w.heap.size w W) => bcheck_calls t F v W (hv.below hW) hf ht (shpl_below hP hW))
  have hfm := Lib.hid (fun (hc : chk t (fms F) = 0) W (hW : Below w.heap.size w W) (x : Fs) (hx : x ∈ F) => cfits_calls p x.hd x.L x.v W ((hv.2 x hx).1.below hW) (hv.2 x hx).2 (Lg.chk_fam hc (List.mem_map.2 ⟨x, hx, rfl⟩)) (hT.below hW) (shpl_below hP hW))
  obtain ⟨A, cap, rfl, hlc, hcm, hnil, hrow⟩ := hv.1
  unfold maxLen at hcm
  have HR := Lib.hid hrow
  have HV := Lib.hid hv.2
  have K0 := Lib.hid k0
  have HF0 := Lib.hid F0
  clear hnil hv hrow hf k0 F0 ht hT hP
  by_cases hp1 : p < 1
  · have d1 : decide (p < 1) = true := decide_eq_true hp1
    have hr := Lib.hid (Kl.why_no (p := p) (t := t) (F := fms F) (by omega))
    clear hp1
    go_enter Tryz.func7, Tryz.ntmps7
    go_wp2
    go_ret2
    exact ⟨by rw [hr.out]; rfl, by first | exact K0.out | exact below_drewN K0.out _⟩
  have d1 : decide (p < 1) = false := decide_eq_false hp1
  by_cases hp2 : 4 < p
  · have d2 : decide (4 < p) = true := decide_eq_true hp2
    have hr := Lib.hid (Kl.why_no (p := p) (t := t) (F := fms F) (by omega))
    clear hp1 hp2
    go_enter Tryz.func7, Tryz.ntmps7
    go_wp2
    go_ret2
    exact ⟨by rw [hr.out]; rfl, by first | exact K0.out | exact below_drewN K0.out _⟩
  have d2 : decide (4 < p) = false := decide_eq_false hp2
  have hp : 1 ≤ p ∧ p ≤ 4 := by omega
  clear hp1 hp2
  have hck0 := Lib.hid (hck.out _ K0.out)
  clear hck
  by_cases hc : chk t (fms F) = 0
  rotate_left
  · have hr := Lib.hid (Kl.why_bad (p := p) (t := t) (F := fms F) hc)
    have dz : decide (chk t (fms F) = 0) = false := decide_eq_false hc
    have bz : (chk t (fms F) == 0) = false := by simpa using hc
    have nz : (chk t (fms F) != 0) = true := by simpa using hc
    generalize chk t (fms F) = zz at *
    clear hc hp hfm
    go_enter Tryz.func7, Tryz.ntmps7
    go_wp2_with fail
    refine hck0.out.mono ?_; rintro e w1 ⟨rfl, b1⟩
    have K1 := Lib.hid (trans9 K0.out b1)
    clear b1
    go_wp2
    go_ret2
    exact ⟨by rw [hr.out]; rfl, K1.out⟩
  rw [hc] at hck0
  have hwy := Lib.hid (Kl.why_yes hc hp)
  replace hfm := Lib.hid (hfm.out hc)
  clear hp hc
  go_enter Tryz.func7, Tryz.ntmps7
  go_wp2_with fail
  refine hck0.out.mono ?_; rintro e w1 ⟨rfl, b1⟩
  have K1 := Lib.hid (trans9 K0.out b1)
  have HF1 := Lib.hid (HF0.out.below b1)
  clear b1 hck0
  obtain ⟨x0, x1, xf, xl⟩ := HF1.out
  go_wp2_with fail
  go_loopw [22] (fun s wr => ∃ i : Nat, i ≤ F.length ∧ s = .int .i64 (i : Nat) ∧ Hid (∀ y ∈ (fms F).take i, Kl.fam p y = true) ∧ Below w1.heap.size w1 wr) (fun s _ => F.length - (intOf s).toNat)
  case atStart => exact ⟨0, Nat.zero_le _, rfl, Lib.hid (fun y hy => by cases hy), Below.refl _ _⟩
  case round =>
    obtain ⟨i, hi, rfl, H, hb⟩ := hrel
    have HB := Lib.hid (trans9 K1.out hb)
    clear x0 x1 xf xl
    by_cases hil : i < F.length
    · obtain ⟨b, off, rfl, hbs, hc⟩ := HR.out (by omega)
      obtain ⟨x, hx, hxp⟩ := fs_get hil
      have hmx := List.mem_of_getElem? hx
      obtain ⟨c0, c1, c2, c3, c4⟩ := fr_cells hc hx
      have hcl := Lib.hid (fun W (hW : Below w.heap.size w W) => hfm.out W hW x hmx)
      have hno := Lib.hid (fun (h : Kl.fam p (fm x) = false) => Kl.whyF_at H.out hxp h)
      have hnx := Lib.hid (fun (h : Kl.fam p (fm x) = true) => Lg.all_take (P := fun y => Kl.fam p y = true) H.out hxp h)
      have hR1 : ∀ o u, w.cell? ⟨b, o, none⟩ = some u → wr.cell? ⟨b, o, none⟩ = some u := fun o u hu => (HB.out.cell (p := ⟨b, o, none⟩) hbs).trans hu
      have r0 := hR1 _ _ c0
      have r1 := hR1 _ _ c1
      have r2 := hR1 _ _ c2
      have r3 := hR1 _ _ c3
      have r4 := hR1 _ _ c4
      obtain ⟨A3, cap3, hx3, _⟩ := (HV.out x hmx).1.1
      have hBw := Lib.hid hb
      obtain ⟨⟨xn, xk, xu, xh⟩, xv, L⟩ := x
      simp only at r0 r1 r2 r3 r4 hcl hno hnx hx3
      subst hx3
      have ka := kp_alloc (Below.refl wr.heap.size wr) (.cells (famc ⟨xn, xk, xu, xh⟩ (.slice A3 L.length cap3)) 39)
      have HFA := Lib.hid (FamAt.new wr ⟨xn, xk, xu, xh⟩ (.slice A3 L.length cap3) 39)
      have HKA := Lib.hid (trans9 HB.out ka)
      have HKV := Lib.hid (trans9 hBw.out ka)
      clear hc c0 c1 c2 c3 c4 hR1 hx hxp hmx hb ka H
      go_upto_region 6 with fail
      obtain ⟨W4, hW4⟩ : ∃ W, W = wr.alloc (.cells #[.string (str xn), .int .i64 xk, .string (str xu), .string (str xh), .slice A3 L.length cap3] 39) := ⟨_, rfl⟩
      have HF4 : Hid (FamAt W4 wr.heap.size ⟨xn, xk, xu, xh⟩ (.slice A3 L.length cap3)) := Lib.hid (by rw [hW4]; exact HFA.out)
      have HK4 : Hid (Below w.heap.size w W4) := Lib.hid (by rw [hW4]; exact HKA.out)
      have HV4 : Hid (Below w1.heap.size w1 W4) := Lib.hid (by rw [hW4]; exact HKV.out)
      rw [← hW4]
      clear hW4 HFA HKA HKV r0 r1 r2 r3 r4
      obtain ⟨y0, y1, y2, y3, y4, yf, yl⟩ := HF4.out
      dsimp only at y0 y1 y2 y3 y4
      generalize Kl.fam p (fm ⟨⟨xn, xk, xu, xh⟩, .slice A3 L.length cap3, L⟩) = C at *
      cases C with
      | false =>
        have hr := Lib.hid (hwy.out.trans (hno.out rfl))
        clear hno hnx
        go_wp2_with fail
        refine (hcl.out _ HK4.out).mono ?_; rintro e w6 ⟨rfl, b6⟩
        have HK6 := Lib.hid (trans9 HK4.out b6)
        have HF6 := Lib.hid (HF4.out.below b6)
        clear b6 y0 y1 y2 y3 y4 yf yl HF4 HK4 HV4 hcl
        obtain ⟨y0, y1, y2, y3, y4, yf, yl⟩ := HF6.out
        dsimp only at y0 y1 y2 y3 y4
        go_wp2
        go_ret2
        exact ⟨by rw [hr.out]; rfl, HK6.out⟩
      | true =>
        have hr := Lib.hid (hnx.out rfl)
        clear hno hnx
        go_wp2_with fail
        refine (hcl.out _ HK4.out).mono ?_; rintro e w6 ⟨rfl, b6⟩
        have HV6 := Lib.hid (trans9 HV4.out b6)
        clear b6 y0 y1 y2 y3 y4 yf yl HF4 HK4 HV4 hcl
        go_wp2
        go_roundw
        case rel => exact ⟨i + 1, hil, by go_num, hr.out, HV6.out⟩
        case measure => simp [intOf]; omega
    · have hr := Lib.hid (hwy.out.trans (Kl.whyF_all H.out (by simp [fms]; omega)))
      go_wp2
      go_ret2
      exact ⟨by rw [hr.out]; rfl, HB.out⟩

set_option maxHeartbeats 4000000 in
theorem cis_calls (p : Int) (t : List UInt8) (F : List Fs) (v : Value) (w : World) (hv : FmRow w v F) (hf : FmFew F) (ht : t.length ≤ maxLen) (hT : ChT w) (hP : ShPl w) :
    Calls Tryz.prog 11 #[.int .i64 p, batv t v] w fun e w' => e = .returned (.bool (Kl.why p t (fms F)).2) ∧ Below w.heap.size w w' := by
  have k0 := kp_alloc (Below.refl w.heap.size w) (.cells #[.string (str t), v] 24)
  have F0 := BatAt.new w t v 24
  have hwy := Lib.hid (fun W (hW : Below w.heap.size w W) => cwhy_calls p t F v W (hv.below hW) hf ht (hT.below hW) (shpl_below hP hW))
  obtain ⟨A, cap, rfl, hlc, hcm, hnil, hrow⟩ := hv.1
  have K0 := Lib.hid k0
  have HF0 := Lib.hid F0
  generalize Kl.why p t (fms F) = R at *
  obtain ⟨Ra, Rb⟩ := R
  clear hnil hv hrow hf k0 F0 ht hlc hcm hT hP
  go_enter Tryz.func11, Tryz.ntmps11
  go_upto_region 1 with fail
  generalize hW0 : w.alloc (.cells #[.string (str t), .slice A F.length cap] 24) = W0 at *
  clear hW0
  obtain ⟨x0, x1, xf, xl⟩ := HF0.out
  have hw0 := Lib.hid (hwy.out W0 K0.out)
  clear hwy
  go_wp2_with fail
  refine hw0.out.mono ?_; rintro e w1 ⟨rfl, b1⟩
  have K1 := Lib.hid (trans9 K0.out b1)
  clear b1 x0 x1 xf xl
  go_wp2
  go_ret
  exact ⟨rfl, K1.out⟩

theorem clsC_of {w : World} (hT : ChT w) (hP : ShPl w) : ClsC w where
  why p t F v X hX hv hf ht := cwhy_calls p t F v X hv hf ht (hT.below hX) (shpl_below hP hX)
  is p t F v X hX hv hf ht := cis_calls p t F v X hv hf ht (hT.below hX) (shpl_below hP hX)
  kinds p X hX := ckinds_calls p X
  val p l X hX hl := val16_calls p l X hl (shpl_below hP hX).1

end Go.Proofs.YtgoibhbmndpgpaaGreatDoor
