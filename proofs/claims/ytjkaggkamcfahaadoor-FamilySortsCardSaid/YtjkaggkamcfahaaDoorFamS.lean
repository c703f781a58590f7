/- The walk of the laws' own 'short'. -/
import Derived.Test.YtjkaggkamcfahaaDoorFamRow
set_option maxRecDepth 100000
set_option linter.unusedVariables false
set_option linter.unusedSimpArgs false
namespace Go.Proofs.YtjkaggkamcfahaaDoor
open Go.RowKit Dc
attribute [local go_sem ↓] Go.wp_at_zero Go.wp_at_succ

/-- what 'short' tells: few points, of few labels each -/
def ShortF (L : List Ps) (e : Ending) : Prop := ∃ q : Bool, e = .returned (.bool q) ∧ (q = true → L.length ≤ 40 ∧ ∀ x ∈ L, x.2.l.length ≤ 12)
theorem shortF_no {L : List Ps} {e : Ending} (h : e = .returned (.bool false)) : ShortF L e := ⟨false, h, by rintro ⟨⟩⟩
theorem shortF_any {L : List Ps} {e : Ending} {q : Bool} (h : e = .returned (.bool q)) (hl : L.length ≤ 40) (hx : ∀ x ∈ L, x.2.l.length ≤ 12) : ShortF L e := ⟨q, h, fun _ => ⟨hl, hx⟩⟩
theorem ShortF.ways {L : List Ps} {e : Ending} (h : ShortF L e) : e = .returned (.bool false) ∨ (e = .returned (.bool true) ∧ L.length ≤ 40 ∧ ∀ x ∈ L, x.2.l.length ≤ 12) := by
  obtain ⟨q, rfl, hq⟩ := h
  cases q
  · exact Or.inl rfl
  · exact Or.inr ⟨rfl, hq rfl⟩

set_option maxHeartbeats 16000000 in
theorem fshort_calls (h : Hd) (L : List Ps) (v : Value) (w : World) (hv : PtRow w v L) :
    Calls Tryd.prog 8 #[famv h v] w fun e w' => ShortF L e ∧ Below w.heap.size w w' := by
  have k0 := kp_alloc (Below.refl w.heap.size w) (.cells (famc h v) 26)
  have F0 := FamAt.new w h v 26
  have hv0 := hv.below k0
  obtain ⟨n, kk, u, hh⟩ := h
  obtain ⟨hrw, hin⟩ := hv0
  obtain ⟨A, cap, rfl, hlc, hcm, hnil, hrow⟩ := hrw
  unfold maxLen at hcm
  clear hnil hv
  have hzn := str_size n
  have hzu := str_size u
  have hzh := str_size hh
  go_enter Tryd.func8, Tryd.ntmps8
  go_upto_region 1 with fail
  have K0 := Lib.hid k0
  have HF := Lib.hid F0
  have HR := Lib.hid hrow
  have HI := Lib.hid hin
  have hx12 : Hid (∀ m x, m < 0 → L[m]? = some x → x.2.l.length ≤ 12) := fun m x hm => absurd hm (by omega)
  clear k0 F0 hrow hin
  generalize hW0 : w.alloc (.cells #[.string (str n), .int .i64 kk, .string (str u), .string (str hh), .slice A L.length cap] 26) = W0 at *
  clear hW0
  have hbz : w.heap.size ≤ W0.heap.size := K0.out.size
  have HK := Lib.hid (fun X (h : Below W0.heap.size W0 X) => show Below w.heap.size w X from K0.out.trans (h.mono hbz))
  obtain ⟨b0, hb0⟩ : ∃ b0, b0 = w.heap.size := ⟨_, rfl⟩
  rw [← hb0] at HF ⊢
  clear K0 hbz hb0
  go_wp2_with fail
  go_loopw [3] (fun v wr => ∃ i : Nat, i ≤ L.length ∧ v = .int .i64 (i : Nat) ∧ Hid (∀ m x, m < i → L[m]? = some x → x.2.l.length ≤ 12) ∧ Below W0.heap.size W0 wr) (fun v _ => L.length - (intOf v).toNat)
  case atStart => exact ⟨0, Nat.zero_le _, rfl, hx12.out, Below.refl _ _⟩
  case round =>
    obtain ⟨i, hi, rfl, H, hb⟩ := hrel
    clear hx12
    obtain ⟨x0, x1, x2, x3, x4, xf, xl⟩ := HF.out.below hb
    dsimp only at x0 x1 x2 x3 x4
    by_cases hil : i < L.length
    · obtain ⟨b, off, rfl, hbs, hc⟩ := HR.out (by omega)
      obtain ⟨x, hx, _⟩ := ps_get hil
      have hxi := HI.out x (List.mem_of_getElem? hx)
      obtain ⟨c0, _⟩ := pr_cells hc hx
      obtain ⟨A1, cap1, hx1, hlc1, hcm1, _, hrow1⟩ := hxi.1
      unfold maxLen at hcm1
      rw [hx1] at c0
      have hnx := Lib.hid (fun (h : x.2.l.length ≤ 12) => show ∀ m y, m < i + 1 → L[m]? = some y → y.2.l.length ≤ 12 from fun m y hm hy => by
        by_cases em : m = i
        · subst em
          rw [hx] at hy
          obtain rfl := Option.some.inj hy
          exact h
        · exact H.out m y (by omega) hy)
      have HR1 := Lib.hid hrow1
      have c0' := (hb.cell (p := ⟨b, off + i * 9, none⟩) hbs).trans c0
      have hw1 : IntKind.i64.wrap ((i : Int) + 1) = (i : Int) + 1 := IntWalk.i64_in _ (by omega)
      generalize x.2.l = ls at *
      clear hx hx1 hxi hrow1 hc
      by_cases h12 : (12 : Int) < (ls.length : Int)
      · have d12 : decide ((12 : Int) < (ls.length : Int)) = true := decide_eq_true h12
        have d12' : decide (12 < ls.length) = true := by simp; omega
        have HB := Lib.hid hb
        clear hb
        go_wp2
        go_ret
        exact ⟨shortF_no rfl, HK.out _ HB.out⟩
      · have d12 : decide ((12 : Int) < (ls.length : Int)) = false := decide_eq_false h12
        have d12' : decide (12 < ls.length) = false := by simp; omega
        have hgo := Lib.hid (hnx.out (by omega))
        have HB := Lib.hid hb
        clear hb h12 hnx
        go_wp2_with fail
        clear x0 x1 x2 x3 x4 xf xl c0'
        go_loopw [4] (fun v wr => ∃ k : Nat, k ≤ ls.length ∧ v = .int .i64 (k : Nat) ∧ Below W0.heap.size W0 wr) (fun v _ => ls.length - (intOf v).toNat)
        case atStart => exact ⟨0, Nat.zero_le _, rfl, HB.out⟩
        case round =>
          obtain ⟨k, hk, rfl, hb⟩ := hrel
          obtain ⟨x0, x1, x2, x3, x4, xf, xl⟩ := HF.out.below hb
          dsimp only at x0 x1 x2 x3 x4
          have c0' := (hb.cell (p := ⟨b, off + i * 9, none⟩) hbs).trans c0
          by_cases hkl : k < ls.length
          · obtain ⟨b1, off1, rfl, hbs1, hc1⟩ := HR1.out (by omega)
            obtain ⟨e0, e1⟩ := hc1 k (lbAt ls k) (at_get hkl)
            have e0 := (hb.cell (p := ⟨b1, off1 + k * 2, none⟩) hbs1).trans e0
            have e1 := (hb.cell (p := ⟨b1, off1 + k * 2 + 1, none⟩) hbs1).trans e1
            generalize lbAt ls k = X at *
            obtain ⟨X1, X2⟩ := X
            simp only at e0 e1
            have hz1 := str_size X1
            have hz2 := str_size X2
            have hwk : IntKind.i64.wrap ((k : Int) + 1) = (k : Int) + 1 := IntWalk.i64_in _ (by omega)
            have hb1 := Lib.hid (kb_alloc hb (Nat.le_refl _) (.cells #[.string (str X1), .string (str X2)] 53))
            clear hc1 hb
            by_cases h1 : (100 : Int) < (X1.length : Int)
            · have d1 : decide ((100 : Int) < (X1.length : Int)) = true := decide_eq_true h1
              have d1' : decide (100 < X1.length) = true := by simp; omega
              go_wp2
              go_ret
              exact ⟨shortF_no rfl, HK.out _ hb1.out⟩
            · have d1 : decide ((100 : Int) < (X1.length : Int)) = false := decide_eq_false h1
              have d1' : decide (100 < X1.length) = false := by simp; omega
              by_cases h2 : (100 : Int) < (X2.length : Int)
              · have d2 : decide ((100 : Int) < (X2.length : Int)) = true := decide_eq_true h2
                have d2' : decide (100 < X2.length) = true := by simp; omega
                go_wp2
                go_ret
                exact ⟨shortF_no rfl, HK.out _ hb1.out⟩
              · have d2 : decide ((100 : Int) < (X2.length : Int)) = false := decide_eq_false h2
                have d2' : decide (100 < X2.length) = false := by simp; omega
                go_wp2
                go_roundw
                case rel => exact ⟨k + 1, hkl, by go_num, hb1.out⟩
                case measure => simp [intOf]; omega
          · have HB2 := Lib.hid hb
            clear hb
            go_wp2
            go_roundw
            case rel => exact ⟨i + 1, hil, by go_num, hgo.out, HB2.out⟩
            case measure => simp [intOf]; omega
    · have hall := Lib.hid (show ∀ x ∈ L, x.2.l.length ≤ 12 from fun x hx => by
        obtain ⟨m, hm, rfl⟩ := List.getElem_of_mem hx
        exact H.out m _ (by omega) (List.getElem?_eq_getElem hm))
      have HB2 := Lib.hid (HK.out _ hb)
      clear H hb
      by_cases h40 : (L.length : Int) ≤ 40
      · have d40 : decide ((L.length : Int) ≤ 40) = true := decide_eq_true h40
        have hL40 : L.length ≤ 40 := by omega
        have hq := Lib.hid (fun (e : Ending) (q : Bool) (h : e = .returned (.bool q)) => shortF_any h hL40 hall.out)
        clear h40 hL40
        by_cases g1 : (n.length : Int) ≤ 100
        · have dn : decide ((n.length : Int) ≤ 100) = true := decide_eq_true g1
          by_cases g2 : (u.length : Int) ≤ 100
          · have du : decide ((u.length : Int) ≤ 100) = true := decide_eq_true g2
            go_wp2
            go_ret
            exact ⟨hq.out _ _ rfl, HB2.out⟩
          · have du : decide ((u.length : Int) ≤ 100) = false := decide_eq_false g2
            go_wp2
            go_ret
            exact ⟨hq.out _ _ rfl, HB2.out⟩
        · have dn : decide ((n.length : Int) ≤ 100) = false := decide_eq_false g1
          go_wp2
          go_ret
          exact ⟨hq.out _ _ rfl, HB2.out⟩
      · have d40 : decide ((L.length : Int) ≤ 40) = false := decide_eq_false h40
        go_wp2
        go_ret
        exact ⟨shortF_no rfl, HB2.out⟩

end Go.Proofs.YtjkaggkamcfahaaDoor
