/- The walks of package family's fit, Good. -/
import Derived.Test.YtjeefgamkoeiaaaGreatDoorFamC
import Derived.Test.YtjeefgamkoeiaaaGreatDoorFamA
import Derived.Test.YtjeefgamkoeiaaaGreatDoorPointD
import Derived.Test.YtjeefgamkoeiaaaGreatDoorPtTabs
set_option maxRecDepth 100000
set_option linter.unusedVariables false
set_option linter.unusedSimpArgs false
namespace Go.Proofs.YtjeefgamkoeiaaaGreatDoor
open Go.RowKit Dc
attribute [local go_sem ↓] Go.wp_at_zero Go.wp_at_succ

theorem shpl_below {w w' : World} (h : ShPl w) (hb : Below w.heap.size w w') : ShPl w' := ⟨h.1.below hb h.1.room, h.2.below hb⟩

set_option maxHeartbeats 8000000 in
theorem ffit_calls (kk : Int) (L : List Ps) (v : Value) (w : World) (hv : PtRow w v L) (hn : L.length ≤ 1000) (hT : ShPl w) :
    Calls Tryz.prog 52 #[.int .i64 kk, v] w fun e w' => e = .returned (.bool ((pts L).all (ptOk kk))) ∧ Below w.heap.size w w' := by
  have HP := Lib.hid hv.2
  obtain ⟨A, cap, rfl, hlc, hcm, hnil, hrow⟩ := hv.1
  unfold maxLen at hcm
  have HR := Lib.hid hrow
  have HT := Lib.hid hT
  clear hrow hnil hv hT
  go_enter Tryz.func52, Tryz.ntmps52
  go_wp2_with fail
  go_loopw [9] (fun v wr => ∃ k : Nat, k ≤ L.length ∧ v = .int .i64 (k : Nat) ∧ Hid (∀ m p, m < k → (pts L)[m]? = some p → ptOk kk p = true) ∧ Below w.heap.size w wr) (fun v _ => L.length - (intOf v).toNat)
  case atStart => exact ⟨0, Nat.zero_le _, rfl, fun m p hm => absurd hm (by omega), Below.refl _ _⟩
  case round =>
    obtain ⟨k, hk, rfl, H, hb⟩ := hrel
    by_cases hkl : k < L.length
    · obtain ⟨b, off, rfl, hbs, hc⟩ := HR.out (by omega)
      obtain ⟨x, hx, hxp⟩ := ps_get hkl
      have hix := HP.out x (List.mem_of_getElem? hx)
      obtain ⟨c0, c1, c2, c3, c4, c5, c6, c7, c8⟩ := pr_cells hc hx
      have hcp := Lib.hid (fun W (hW : Below w.heap.size w W) => pgood_calls kk x.1 x.2 W (hix.1.below hW) hix.2 (shpl_below HT.out hW).1 (shpl_below HT.out hW).2)
      have hno := Lib.hid (fun (h : ptOk kk x.2 = false) => show (pts L).all (ptOk kk) = false from List.all_eq_false.2 ⟨x.2, List.mem_of_getElem? hxp, by rw [h]; decide⟩)
      have hnx := Lib.hid (fun (h : ptOk kk x.2 = true) => show ∀ m p, m < k + 1 → (pts L)[m]? = some p → ptOk kk p = true from fun m p hm h1 => by
        by_cases em : m = k
        · subst em
          rw [hxp] at h1
          obtain rfl := Option.some.inj h1
          exact h
        · exact H.out m p (by omega) h1)
      obtain ⟨A1, n1, cap1, hx1⟩ : ∃ A1 n1 cap1, x.1 = .slice A1 n1 cap1 := by obtain ⟨_, _, h, _⟩ := hix.1; exact ⟨_, _, _, h⟩
      obtain ⟨xv, p⟩ := x
      simp only at hx1
      subst hx1
      obtain ⟨pl, ro, inf, bm, bs, m, s, td, ti⟩ := p
      have hR : ∀ o u, w.cell? ⟨b, o, none⟩ = some u → wr.cell? ⟨b, o, none⟩ = some u := fun o u hu => (hb.cell (p := ⟨b, o, none⟩) hbs).trans hu
      simp only at c0 c1 c2 c3 c4 c5 c6 c7 c8
      have r0 := hR _ _ c0
      have r1 := hR _ _ c1
      have r2 := hR _ _ c2
      have r3 := hR _ _ c3
      have r4 := hR _ _ c4
      have r5 := hR _ _ c5
      have r6 := hR _ _ c6
      have r7 := hR _ _ c7
      have r8 := hR _ _ c8
      have hk1 := Lib.hid (kp_alloc hb (.cells #[.slice A1 n1 cap1, .int .i64 ro, .bool inf, .int .i64 bm, .int .i64 bs, .int .i64 m, .int .i64 s, .bool td, .int .i64 ti] 53))
      have HB := Lib.hid hb
      simp only at hno hnx hcp
      generalize ptOk kk _ = C at *
      clear hc c0 c1 c2 c3 c4 c5 c6 c7 c8 hR hx hxp hix hbs hb
      cases C with
      | true =>
        have hr := Lib.hid (hnx.out rfl)
        clear hno hnx
        go_wp2_with fail
        refine (hcp.out _ hk1.out).mono ?_; rintro e w1 ⟨rfl, b1⟩
        have kB := trans9 hk1.out b1
        clear b1
        go_wp2_with fail
        go_roundw
        case rel => exact ⟨k + 1, hkl, by go_num, hr.out, kB⟩
        case measure => simp [intOf]; omega
      | false =>
        have hr := Lib.hid (hno.out rfl)
        clear hno hnx
        go_wp2_with fail
        refine (hcp.out _ hk1.out).mono ?_; rintro e w1 ⟨rfl, b1⟩
        have kB := trans9 hk1.out b1
        clear b1
        go_wp2_with fail
        go_ret
        exact ⟨by rw [hr.out]; rfl, kB⟩
    · have hlen : (pts L).length = L.length := by simp [pts]
      have hs := Lib.hid (show (pts L).all (ptOk kk) = true from List.all_eq_true.2 (fun p hp => by
        obtain ⟨i, hi, rfl⟩ := List.getElem_of_mem hp
        exact H.out i _ (by omega) (List.getElem?_eq_getElem hi)))
      clear H hlen
      go_wp2
      go_ret
      exact ⟨by rw [hs.out]; rfl, hb⟩

set_option maxHeartbeats 8000000 in
theorem fgood_calls (h : Hd) (L : List Ps) (v : Value) (w : World) (hv : PtRow w v L) (hn : L.length ≤ 1000) (hh : HdIn h) (hT : ShPl w) :
    Calls Tryz.prog 30 #[famv h v] w fun e w' => e = .returned (.bool (famOk h (pts L))) ∧ Below w.heap.size w w' := by
  have k0 := kp_alloc (Below.refl w.heap.size w) (.cells (famc h v) 41)
  have F0 := FamAt.new w h v 41
  have hN := Lib.hid (fun W (hW : Below w.heap.size w W) => name_calls h.n W hh.ln (shpl_below hT hW).1)
  have hK := Lib.hid (fun W => iskind_calls h.k W)
  have hU := Lib.hid (fun W (hW : Below w.heap.size w W) => value_calls h.u W hh.lu (shpl_below hT hW).1)
  have hH := Lib.hid (fun W (hW : Below w.heap.size w W) => value_calls h.h W hh.lh (shpl_below hT hW).1)
  have hF := Lib.hid (fun W (hW : Below w.heap.size w W) => ffit_calls h.k L v W (hv.below hW) hn (shpl_below hT hW))
  have hA := Lib.hid (fun W (hW : Below w.heap.size w W) => ascend_calls L v W (hv.below hW) hn)
  rw [show famOk h (pts L) = (nameOk h.n && kindOk h.k && valueOk h.u && valueOk h.h && (pts L).all (ptOk h.k) && decide (StrictP (pts L))) from rfl]
  generalize nameOk h.n = b1 at *
  generalize kindOk h.k = b2 at *
  generalize valueOk h.u = b3 at *
  generalize valueOk h.h = b4 at *
  generalize (pts L).all (ptOk h.k) = b5 at *
  generalize decide (StrictP (pts L)) = b6 at *
  obtain ⟨A, cap, hv1⟩ : ∃ A cap, v = .slice A L.length cap := by obtain ⟨A, cap, h, _⟩ := hv.1; exact ⟨A, cap, h⟩
  subst hv1
  obtain ⟨n, k, u, e⟩ := h
  generalize L.length = len at *
  have K0 := Lib.hid k0
  have HF0 := Lib.hid F0
  clear hv hh hT hn k0 F0
  go_enter Tryz.func30, Tryz.ntmps30
  cases b1 with
  | false =>
    go_wp2_with fail
    refine (hN.out _ K0.out).mono ?_; rintro e w1 ⟨rfl, c1⟩
    have K1 := Lib.hid (trans9 K0.out c1)
    have HF1 := Lib.hid (HF0.out.below c1)
    obtain ⟨x10, x11, x12, x13, x14, _, _⟩ := HF1.out
    clear c1
    go_wp2
    go_ret
    exact ⟨by simp, K1.out⟩
  | true =>
    go_wp2_with fail
    refine (hN.out _ K0.out).mono ?_; rintro e w1 ⟨rfl, c1⟩
    have K1 := Lib.hid (trans9 K0.out c1)
    have HF1 := Lib.hid (HF0.out.below c1)
    obtain ⟨x10, x11, x12, x13, x14, _, _⟩ := HF1.out
    clear c1
    cases b2 with
    | false =>
      go_wp2_with fail
      refine (hK.out _).mono ?_; rintro e w99 ⟨rfl, rfl⟩
      go_wp2
      go_ret
      exact ⟨by simp, K1.out⟩
    | true =>
      go_wp2_with fail
      refine (hK.out _).mono ?_; rintro e w99 ⟨rfl, rfl⟩
      cases b3 with
      | false =>
        go_wp2_with fail
        refine (hU.out _ K1.out).mono ?_; rintro e w2 ⟨rfl, c2⟩
        have K2 := Lib.hid (trans9 K1.out c2)
        have HF2 := Lib.hid (HF1.out.below c2)
        obtain ⟨x20, x21, x22, x23, x24, _, _⟩ := HF2.out
        clear x10 x11 x12 x13 x14
        clear c2
        go_wp2
        go_ret
        exact ⟨by simp, K2.out⟩
      | true =>
        go_wp2_with fail
        refine (hU.out _ K1.out).mono ?_; rintro e w2 ⟨rfl, c2⟩
        have K2 := Lib.hid (trans9 K1.out c2)
        have HF2 := Lib.hid (HF1.out.below c2)
        obtain ⟨x20, x21, x22, x23, x24, _, _⟩ := HF2.out
        clear x10 x11 x12 x13 x14
        clear c2
        cases b4 with
        | false =>
          go_wp2_with fail
          refine (hH.out _ K2.out).mono ?_; rintro e w3 ⟨rfl, c3⟩
          have K3 := Lib.hid (trans9 K2.out c3)
          have HF3 := Lib.hid (HF2.out.below c3)
          obtain ⟨x30, x31, x32, x33, x34, _, _⟩ := HF3.out
          clear x20 x21 x22 x23 x24
          clear c3
          go_wp2
          go_ret
          exact ⟨by simp, K3.out⟩
        | true =>
          go_wp2_with fail
          refine (hH.out _ K2.out).mono ?_; rintro e w3 ⟨rfl, c3⟩
          have K3 := Lib.hid (trans9 K2.out c3)
          have HF3 := Lib.hid (HF2.out.below c3)
          obtain ⟨x30, x31, x32, x33, x34, _, _⟩ := HF3.out
          clear x20 x21 x22 x23 x24
          clear c3
          cases b5 with
          | false =>
            go_wp2_with fail
            refine (hF.out _ K3.out).mono ?_; rintro e w4 ⟨rfl, c4⟩
            have K4 := Lib.hid (trans9 K3.out c4)
            have HF4 := Lib.hid (HF3.out.below c4)
            obtain ⟨x40, x41, x42, x43, x44, _, _⟩ := HF4.out
            clear x30 x31 x32 x33 x34
            clear c4
            go_wp2
            go_ret
            exact ⟨by simp, K4.out⟩
          | true =>
            go_wp2_with fail
            refine (hF.out _ K3.out).mono ?_; rintro e w4 ⟨rfl, c4⟩
            have K4 := Lib.hid (trans9 K3.out c4)
            have HF4 := Lib.hid (HF3.out.below c4)
            obtain ⟨x40, x41, x42, x43, x44, _, _⟩ := HF4.out
            clear x30 x31 x32 x33 x34
            clear c4
            cases b6 with
            | false =>
              go_wp2_with fail
              refine (hA.out _ K4.out).mono ?_; rintro e w5 ⟨rfl, c5⟩
              have K5 := Lib.hid (trans9 K4.out c5)
              have HF5 := Lib.hid (HF4.out.below c5)
              obtain ⟨x50, x51, x52, x53, x54, _, _⟩ := HF5.out
              clear x40 x41 x42 x43 x44
              clear c5
              go_wp2
              go_ret
              exact ⟨by simp, K5.out⟩
            | true =>
              go_wp2_with fail
              refine (hA.out _ K4.out).mono ?_; rintro e w5 ⟨rfl, c5⟩
              have K5 := Lib.hid (trans9 K4.out c5)
              have HF5 := Lib.hid (HF4.out.below c5)
              obtain ⟨x50, x51, x52, x53, x54, _, _⟩ := HF5.out
              clear x40 x41 x42 x43 x44
              clear c5
              go_wp2
              go_ret
              exact ⟨rfl, K5.out⟩

end Go.Proofs.YtjeefgamkoeiaaaGreatDoor
