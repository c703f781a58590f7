/- The walk of polyglothelp's Wide. -/
import Derived.Test.YtgoibhbmndpgpaaGreatDoorBatX
set_option maxRecDepth 100000
set_option linter.unusedVariables false
set_option linter.unusedSimpArgs false
namespace Go.Proofs.YtgoibhbmndpgpaaGreatDoor
open Go.RowKit Dc
attribute [local go_sem ↓] Go.wp_at_zero Go.wp_at_succ

/-- what Wide tells: where it says no there are few families, points, labels -/
def WideP (F : List Fs) (e : Ending) : Prop := ∃ q : Bool, e = .returned (.bool q) ∧ (q = false → FmFew F ∧ ∀ x ∈ F, x.L.length ≤ 500)
theorem wide_yes {F : List Fs} {e : Ending} (h : e = .returned (.bool true)) : WideP F e := ⟨true, h, by rintro ⟨⟩⟩
theorem wide_no {F : List Fs} {e : Ending} (h : e = .returned (.bool false)) (hf : FmFew F ∧ ∀ x ∈ F, x.L.length ≤ 500) : WideP F e := ⟨false, h, fun _ => hf⟩
theorem WideP.ways {F : List Fs} {e : Ending} (h : WideP F e) : e = .returned (.bool true) ∨ (e = .returned (.bool false) ∧ FmFew F) := by
  obtain ⟨q, rfl, hq⟩ := h
  cases q
  · exact Or.inr ⟨rfl, (hq rfl).1⟩
  · exact Or.inl rfl
theorem WideP.ways2 {F : List Fs} {e : Ending} (h : WideP F e) : e = .returned (.bool true) ∨ (e = .returned (.bool false) ∧ FmFew F ∧ ∀ x ∈ F, x.L.length ≤ 500) := by
  obtain ⟨q, rfl, hq⟩ := h
  cases q
  · exact Or.inr ⟨rfl, hq rfl⟩
  · exact Or.inl rfl

set_option maxHeartbeats 16000000 in
theorem wide_calls (t : List UInt8) (F : List Fs) (v : Value) (w : World) (hv : FmRow w v F) :
    Calls Tryz.prog 6 #[batv t v] w fun e w' => WideP F e ∧ Below w.heap.size w w' := by
  have k0 := kp_alloc (Below.refl w.heap.size w) (.cells #[.string (str t), v] 24)
  have F0 := BatAt.new w t v 24
  have hzt := str_size t
  have HP := Lib.hid hv.2
  obtain ⟨A, cap, rfl, hlc, hcm, hnil, hrow⟩ := hv.1
  unfold maxLen at hcm
  have HR := Lib.hid hrow
  have K0 := Lib.hid k0
  have HF0 := Lib.hid F0
  clear hnil hv hrow k0 F0
  go_enter Tryz.func6, Tryz.ntmps6
  by_cases h40 : (40 : Int) < (F.length : Int)
  · have d40 : decide ((40 : Int) < (F.length : Int)) = true := decide_eq_true h40
    have d40' : decide (40 < F.length) = true := by simp; omega
    go_wp2
    go_ret
    exact ⟨wide_yes rfl, K0.out⟩
  have d40 : decide ((40 : Int) < (F.length : Int)) = false := decide_eq_false h40
  have d40' : decide (40 < F.length) = false := by simp; omega
  by_cases h100 : (100 : Int) < (t.length : Int)
  · have d100 : decide ((100 : Int) < (t.length : Int)) = true := decide_eq_true h100
    have d100' : decide (100 < t.length) = true := by simp; omega
    go_wp2
    go_ret
    exact ⟨wide_yes rfl, K0.out⟩
  have d100 : decide ((100 : Int) < (t.length : Int)) = false := decide_eq_false h100
  have d100' : decide (100 < t.length) = false := by simp; omega
  have H40 := Lib.hid (show F.length ≤ 1000 by omega)
  go_upto_region 3 with fail
  generalize hW0 : w.alloc (.cells #[.string (str t), .slice A F.length cap] 24) = W0 at *
  clear hW0 d100 d100' d40 d40' h40 h100 hzt
  obtain ⟨b0, hb0⟩ : ∃ b0, b0 = w.heap.size := ⟨_, rfl⟩
  have HK := Lib.hid (fun X (h : Below W0.heap.size W0 X) => show Below w.heap.size w X from trans9 K0.out h)
  rw [← hb0] at HF0 ⊢
  clear hb0
  have hx0 : Hid (∀ m x, m < 0 → F[m]? = some x → x.L.length ≤ 500 ∧ ∀ y ∈ x.L, y.2.l.length ≤ 1000) := fun m x hm => absurd hm (by omega)
  go_wp2_with fail
  go_loopw [4, 3] (fun v u wr => ∃ i q : Nat, i ≤ F.length ∧ v = .int .i64 (i : Nat) ∧ u = .int .i64 (q : Nat) ∧ q ≤ 130 ∧ Hid (∀ m x, m < i → F[m]? = some x → x.L.length ≤ 500 ∧ ∀ y ∈ x.L, y.2.l.length ≤ 1000) ∧ Below W0.heap.size W0 wr) (fun v _ _ => F.length - (intOf v).toNat)
  case atStart => exact ⟨0, 0, Nat.zero_le _, rfl, rfl, by omega, hx0.out, Below.refl _ _⟩
  case round =>
    obtain ⟨i, q, hi, rfl, rfl, hq, H, hb⟩ := hrel
    clear hx0
    obtain ⟨x0, x1, xf, xl⟩ := HF0.out.below hb
    by_cases hil : i < F.length
    · obtain ⟨b, off, rfl, hbs, hc⟩ := HR.out (by omega)
      obtain ⟨x, hx, _⟩ := fs_get hil
      have hxi := HP.out x (List.mem_of_getElem? hx)
      obtain ⟨c0, c1, c2, c3, c4⟩ := fr_cells hc hx
      have HBW := Lib.hid (HK.out _ hb)
      have hnx := Lib.hid (fun (h : x.L.length ≤ 500 ∧ ∀ y ∈ x.L, y.2.l.length ≤ 1000) => show ∀ m y, m < i + 1 → F[m]? = some y → y.L.length ≤ 500 ∧ ∀ z ∈ y.L, z.2.l.length ≤ 1000 from fun m y hm hy => by
        by_cases em : m = i
        · subst em
          rw [hx] at hy
          obtain rfl := Option.some.inj hy
          exact h
        · exact H.out m y (by omega) hy)
      obtain ⟨A1, cap1, hx1, hlc1, hcm1, _, hrow1⟩ := hxi.1.1
      unfold maxLen at hcm1
      have HR1 := Lib.hid hrow1
      have HP1 := Lib.hid hxi.1.2
      obtain ⟨⟨xn, xk, xu, xh⟩, xv, L⟩ := x
      simp only at hx1 hlc1 hcm1
      subst hx1
      have hR : ∀ o u, w.cell? ⟨b, o, none⟩ = some u → wr.cell? ⟨b, o, none⟩ = some u := fun o u hu => (HBW.out.cell (p := ⟨b, o, none⟩) hbs).trans hu
      simp only at c0 c1 c2 c3 c4
      have r0 := hR _ _ c0
      have r1 := hR _ _ c1
      have r2 := hR _ _ c2
      have r3 := hR _ _ c3
      have r4 := hR _ _ c4
      have hzn := str_size xn
      have hzu := str_size xu
      have hzh := str_size xh
      have hbel := Lib.hid (kp_alloc hb (.cells #[.string (str xn), .int .i64 xk, .string (str xu), .string (str xh), .slice A1 L.length cap1] 39))
      have FF := Lib.hid (FamAt.new wr ⟨xn, xk, xu, xh⟩ (.slice A1 L.length cap1) 39)
      have HBX := Lib.hid (fun X (h : Below wr.heap.size wr X) => show Below W0.heap.size W0 X from trans9 hb h)
      have hwi : IntKind.i64.wrap ((i : Int) + 1) = (i : Int) + 1 := IntWalk.i64_in _ (by omega)
      clear hc c0 c1 c2 c3 c4 hR hx hxi hrow1 hb
      by_cases h130 : (130 : Int) < (L.length : Int)
      · have d130 : decide ((130 : Int) < (L.length : Int)) = true := decide_eq_true h130
        have d130' : decide (130 < L.length) = true := by simp; omega
        generalize hz : IntKind.i64.wrap ((q : Int) + (L.length : Int)) = z
        by_cases hz1 : (130 : Int) < z
        · have dz : decide ((130 : Int) < z) = true := decide_eq_true hz1
          go_wp2
          go_ret
          exact ⟨wide_yes rfl, HK.out _ hbel.out⟩
        · have dz : decide ((130 : Int) < z) = false := decide_eq_false hz1
          go_wp2
          go_ret
          exact ⟨wide_yes rfl, HK.out _ hbel.out⟩
      have d130 : decide ((130 : Int) < (L.length : Int)) = false := decide_eq_false h130
      have d130' : decide (130 < L.length) = false := by simp; omega
      have hw1 : IntKind.i64.wrap ((q : Int) + (L.length : Int)) = (q : Int) + (L.length : Int) := IntWalk.i64_in _ (by omega)
      by_cases hq1 : (130 : Int) < (q : Int) + (L.length : Int)
      · have dq : decide ((130 : Int) < (q : Int) + (L.length : Int)) = true := decide_eq_true hq1
        go_wp2
        go_ret
        exact ⟨wide_yes rfl, HK.out _ hbel.out⟩
      have dq : decide ((130 : Int) < (q : Int) + (L.length : Int)) = false := decide_eq_false hq1
      by_cases hn1 : (100 : Int) < (xn.length : Int)
      · have dn : decide ((100 : Int) < (xn.length : Int)) = true := decide_eq_true hn1
        have dn' : decide (100 < xn.length) = true := by simp; omega
        go_wp2
        go_ret
        exact ⟨wide_yes rfl, HK.out _ hbel.out⟩
      have dn : decide ((100 : Int) < (xn.length : Int)) = false := decide_eq_false hn1
      have dn' : decide (100 < xn.length) = false := by simp; omega
      by_cases hu1 : (100 : Int) < (xu.length : Int)
      · have du : decide ((100 : Int) < (xu.length : Int)) = true := decide_eq_true hu1
        have du' : decide (100 < xu.length) = true := by simp; omega
        go_wp2
        go_ret
        exact ⟨wide_yes rfl, HK.out _ hbel.out⟩
      have du : decide ((100 : Int) < (xu.length : Int)) = false := decide_eq_false hu1
      have du' : decide (100 < xu.length) = false := by simp; omega
      by_cases hh1 : (100 : Int) < (xh.length : Int)
      · have dh : decide ((100 : Int) < (xh.length : Int)) = true := decide_eq_true hh1
        have dh' : decide (100 < xh.length) = true := by simp; omega
        go_wp2
        go_ret
        exact ⟨wide_yes rfl, HK.out _ hbel.out⟩
      have dh : decide ((100 : Int) < (xh.length : Int)) = false := decide_eq_false hh1
      have dh' : decide (100 < xh.length) = false := by simp; omega
      have hLn := Lib.hid (show L.length ≤ 500 by omega)
      have HQ := Lib.hid (show q + L.length ≤ 130 by omega)
      go_upto_region 11 with fail
      generalize hW1 : wr.alloc (.cells #[.string (str xn), .int .i64 xk, .string (str xu), .string (str xh), .slice A1 L.length cap1] 39) = W1 at *
      obtain ⟨bf, hbf⟩ : ∃ bf, bf = wr.heap.size := ⟨_, rfl⟩
      have HK1 := Lib.hid (fun X (h : Below W1.heap.size W1 X) => show Below W0.heap.size W0 X from trans9 hbel.out h)
      rw [← hbf] at FF ⊢
      clear hbf hW1 d130 d130' hw1 dq dn dn' du du' dh dh' hzn hzu hzh x0 x1 xf xl r0 r1 r2 r3 r4 h130 hq1 hn1 hu1 hh1 HBX
      have hy0 : Hid (∀ m y, m < 0 → L[m]? = some y → y.2.l.length ≤ 12) := fun m y hm => absurd hm (by omega)
      go_wp2_with fail
      go_loopw [6] (fun v wz => ∃ j : Nat, j ≤ L.length ∧ v = .int .i64 (j : Nat) ∧ Hid (∀ m y, m < j → L[m]? = some y → y.2.l.length ≤ 12) ∧ Below W1.heap.size W1 wz) (fun v _ => L.length - (intOf v).toNat)
      case atStart => exact ⟨0, Nat.zero_le _, rfl, hy0.out, Below.refl _ _⟩
      case round =>
        obtain ⟨j, hj, rfl, H2, hb⟩ := hrel
        clear hy0
        obtain ⟨y0, y1, y2, y3, y4, yf, yl⟩ := FF.out.below hb
        dsimp only at y0 y1 y2 y3 y4
        by_cases hjl : j < L.length
        · obtain ⟨b1, off1, rfl, hbs1, hc1⟩ := HR1.out (by omega)
          obtain ⟨y, hy, _⟩ := ps_get hjl
          have hyi := HP1.out y (List.mem_of_getElem? hy)
          obtain ⟨e0, _⟩ := pr_cells hc1 hy
          obtain ⟨A2, cap2, hy1, hlc2, hcm2, _, hrow2⟩ := hyi.1
          unfold maxLen at hcm2
          rw [hy1] at e0
          have hnx2 := Lib.hid (fun (h : y.2.l.length ≤ 12) => show ∀ m z, m < j + 1 → L[m]? = some z → z.2.l.length ≤ 12 from fun m z hm hz => by
            by_cases em : m = j
            · subst em
              rw [hy] at hz
              obtain rfl := Option.some.inj hz
              exact h
            · exact H2.out m z (by omega) hz)
          have HR2 := Lib.hid hrow2
          have HBW1 := Lib.hid (fun X (h : Below W1.heap.size W1 X) => show Below w.heap.size w X from HK.out _ (HK1.out _ h))
          have e0' := ((HBW1.out _ hb).cell (p := ⟨b1, off1 + j * 9, none⟩) hbs1).trans e0
          have hwj : IntKind.i64.wrap ((j : Int) + 1) = (j : Int) + 1 := IntWalk.i64_in _ (by omega)
          generalize y.2.l = ls at *
          clear hy hy1 hyi hrow2 hc1
          by_cases h12 : (12 : Int) < (ls.length : Int)
          · have d12 : decide ((12 : Int) < (ls.length : Int)) = true := decide_eq_true h12
            have d12' : decide (12 < ls.length) = true := by simp; omega
            have HBq := Lib.hid (HBW1.out _ hb)
            clear hb
            go_wp2
            go_ret
            exact ⟨wide_yes rfl, HBq.out⟩
          · have d12 : decide ((12 : Int) < (ls.length : Int)) = false := decide_eq_false h12
            have d12' : decide (12 < ls.length) = false := by simp; omega
            have hgo := Lib.hid (hnx2.out (by omega))
            have HB := Lib.hid hb
            clear hb h12 hnx2
            go_wp2_with fail
            clear y0 y1 y2 y3 y4 yf yl e0'
            go_loopw [7] (fun v wz => ∃ k : Nat, k ≤ ls.length ∧ v = .int .i64 (k : Nat) ∧ Below W1.heap.size W1 wz) (fun v _ => ls.length - (intOf v).toNat)
            case atStart => exact ⟨0, Nat.zero_le _, rfl, HB.out⟩
            case round =>
              obtain ⟨k, hk, rfl, hb⟩ := hrel
              obtain ⟨y0, y1, y2, y3, y4, yf, yl⟩ := FF.out.below hb
              dsimp only at y0 y1 y2 y3 y4
              have e0' := ((HBW1.out _ hb).cell (p := ⟨b1, off1 + j * 9, none⟩) hbs1).trans e0
              by_cases hkl : k < ls.length
              · obtain ⟨b2, off2, rfl, hbs2, hc2⟩ := HR2.out (by omega)
                obtain ⟨g0, g1⟩ := hc2 k (lbAt ls k) (at_get hkl)
                have g0 := ((HBW1.out _ hb).cell (p := ⟨b2, off2 + k * 2, none⟩) hbs2).trans g0
                have g1 := ((HBW1.out _ hb).cell (p := ⟨b2, off2 + k * 2 + 1, none⟩) hbs2).trans g1
                generalize lbAt ls k = X at *
                obtain ⟨X1, X2⟩ := X
                simp only at g0 g1
                have hz1 := str_size X1
                have hz2 := str_size X2
                have hwk : IntKind.i64.wrap ((k : Int) + 1) = (k : Int) + 1 := IntWalk.i64_in _ (by omega)
                have hb1 := Lib.hid (kb_alloc hb (Nat.le_refl _) (.cells #[.string (str X1), .string (str X2)] 48))
                clear hc2 hb
                by_cases h1 : (100 : Int) < (X1.length : Int)
                · have d1 : decide ((100 : Int) < (X1.length : Int)) = true := decide_eq_true h1
                  have d1' : decide (100 < X1.length) = true := by simp; omega
                  go_wp2
                  go_ret
                  exact ⟨wide_yes rfl, HBW1.out _ hb1.out⟩
                · have d1 : decide ((100 : Int) < (X1.length : Int)) = false := decide_eq_false h1
                  have d1' : decide (100 < X1.length) = false := by simp; omega
                  by_cases h2 : (100 : Int) < (X2.length : Int)
                  · have d2 : decide ((100 : Int) < (X2.length : Int)) = true := decide_eq_true h2
                    have d2' : decide (100 < X2.length) = true := by simp; omega
                    go_wp2
                    go_ret
                    exact ⟨wide_yes rfl, HBW1.out _ hb1.out⟩
                  · have d2 : decide ((100 : Int) < (X2.length : Int)) = false := decide_eq_false h2
                    have d2' : decide (100 < X2.length) = false := by simp; omega
                    go_wp2
                    go_roundw
                    case rel => exact ⟨k + 1, hkl, by go_num, hb1.out⟩
                    case measure => simp [intOf]; omega
              · have HB2 := Lib.hid hb
                clear hb
                go_wp2
                go_roundw
                case rel => exact ⟨j + 1, hjl, by go_num, hgo.out, HB2.out⟩
                case measure => simp [intOf]; omega
        · have hall := Lib.hid (hnx.out ⟨hLn.out, fun y hy => by
            obtain ⟨m, hm, rfl⟩ := List.getElem_of_mem hy
            have := H2.out m _ (by omega) (List.getElem?_eq_getElem hm)
            omega⟩)
          have HB2 := Lib.hid (HK1.out _ hb)
          clear hb H2
          go_wp2
          go_roundw
          case rel => exact ⟨i + 1, q + L.length, hil, by go_num, by go_num, HQ.out, hall.out, HB2.out⟩
          case measure => simp [intOf]; omega
    · have h500 : ∀ x ∈ F, x.L.length ≤ 500 := fun x hx => by
        obtain ⟨m, hm, rfl⟩ := List.getElem_of_mem hx
        exact (H.out m _ (by omega) (List.getElem?_eq_getElem hm)).1
      have hfew : Hid (FmFew F ∧ ∀ x ∈ F, x.L.length ≤ 500) := Lib.hid ⟨⟨H40.out, fun x hx => Nat.le_trans (h500 x hx) (by omega), fun x hx => by
        obtain ⟨m, hm, rfl⟩ := List.getElem_of_mem hx
        exact (H.out m _ (by omega) (List.getElem?_eq_getElem hm)).2⟩, h500⟩
      clear h500
      have HB2 := Lib.hid (HK.out _ hb)
      clear H hb
      go_wp2
      go_ret
      exact ⟨wide_no rfl hfew.out, HB2.out⟩

end Go.Proofs.YtgoibhbmndpgpaaGreatDoor
