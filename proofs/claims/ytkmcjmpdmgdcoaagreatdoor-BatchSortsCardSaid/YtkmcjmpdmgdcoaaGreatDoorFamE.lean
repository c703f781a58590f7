/- The walks of slices.EqualFunc at points, of package family's Same. -/
import Derived.Test.YtkmcjmpdmgdcoaaGreatDoorFamRow
import Derived.Test.YtkmcjmpdmgdcoaaGreatDoorPointW
import Derived.Laws.StructEq
set_option maxRecDepth 100000
set_option linter.unusedVariables false
set_option linter.unusedSimpArgs false
namespace Go.Proofs.YtkmcjmpdmgdcoaaGreatDoor
open Go.RowKit Dc
attribute [local go_sem ↓] Go.wp_at_zero Go.wp_at_succ

set_option maxHeartbeats 8000000 in
theorem eqf_calls (L M : List Ps) (v u : Value) (w : World) (hv : PtRow w v L) (hu : PtRow w u M) (hn : L.length ≤ 1000) :
    Calls Tryz.prog 39 #[v, u, .func (.func 40) #[] #[]] w fun e w' => e = .returned (.bool (sameRow (pts L) (pts M))) ∧ Below w.heap.size w w' := by
  have HP := Lib.hid hv.2
  have HP' := Lib.hid hu.2
  obtain ⟨A, cap, rfl, hlc, hcm, hnil, hrow⟩ := hv.1
  obtain ⟨A', cap', rfl, hlc', hcm', hnil', hrow'⟩ := hu.1
  unfold maxLen at hcm hcm'
  have HR := Lib.hid hrow
  have HR' := Lib.hid hrow'
  have hl1 : (pts L).length = L.length := by simp [pts]
  have hl2 : (pts M).length = M.length := by simp [pts]
  clear hrow hnil hv hrow' hnil' hu
  by_cases hne : L.length = M.length
  · have dne : ((L.length : Int) == (M.length : Int)) = true := by simp; omega
    have dne2 : (L.length == M.length) = true := by simpa using hne
    have HNE := Lib.hid hne
    have HL1 := Lib.hid hl1
    have HL2 := Lib.hid hl2
    clear hl1 hl2
    rw [← hne] at hlc' dne2 dne ⊢
    clear hne
    go_enter Tryz.func39, Tryz.ntmps39
    go_wp2_with fail
    go_loopw [17] (fun v wr => ∃ k : Nat, k ≤ L.length ∧ v = .int .i64 (k : Nat) ∧ Hid (sameRow (pts L) (pts M) = sameRow ((pts L).drop k) ((pts M).drop k)) ∧ Below w.heap.size w wr) (fun v _ => L.length - (intOf v).toNat)
    case atStart => exact ⟨0, Nat.zero_le _, rfl, rfl, Below.refl _ _⟩
    case round =>
      obtain ⟨k, hk, rfl, H, hb⟩ := hrel
      by_cases hkl : k < L.length
      · obtain ⟨b, off, rfl, hbs, hc⟩ := HR.out (by omega)
        have hkm : k < M.length := by have := HNE.out; omega
        obtain ⟨b2, off2, rfl, hbs2, hc2⟩ := HR'.out (by omega)
        obtain ⟨x, hx, hxp⟩ := ps_get hkl
        obtain ⟨y, hy, hyp⟩ := ps_get hkm
        have hix := HP.out x (List.mem_of_getElem? hx)
        have hiy := HP'.out y (List.mem_of_getElem? hy)
        obtain ⟨c0, c1, c2, c3, c4, c5, c6, c7, c8⟩ := pr_cells hc hx
        obtain ⟨e0, e1, e2, e3, e4, e5, e6, e7, e8⟩ := pr_cells hc2 hy
        have hcp := Lib.hid (fun W (hW : Below w.heap.size w W) => psame_calls x.1 y.1 x.2 y.2 W (hix.1.below hW) (hiy.1.below hW) hix.2 hiy.2)
        have hat := Lib.hid (sameRow_at hxp hyp H.out)
        obtain ⟨A1, n1, cap1, hx1⟩ : ∃ A1 n1 cap1, x.1 = .slice A1 n1 cap1 := by obtain ⟨_, _, h, _⟩ := hix.1; exact ⟨_, _, _, h⟩
        obtain ⟨A2, n2, cap2, hy1⟩ : ∃ A1 n1 cap1, y.1 = .slice A1 n1 cap1 := by obtain ⟨_, _, h, _⟩ := hiy.1; exact ⟨_, _, _, h⟩
        obtain ⟨xv, p⟩ := x
        obtain ⟨yv, q⟩ := y
        simp only at hx1 hy1
        subst hx1 hy1
        obtain ⟨pl, ro, inf, bm, bs, m, s, td, ti⟩ := p
        obtain ⟨ql, ro2, inf2, bm2, bs2, m2, s2, td2, ti2⟩ := q
        have hR : ∀ o u, w.cell? ⟨b, o, none⟩ = some u → wr.cell? ⟨b, o, none⟩ = some u := fun o u hu => (hb.cell (p := ⟨b, o, none⟩) hbs).trans hu
        have hR2 : ∀ o u, w.cell? ⟨b2, o, none⟩ = some u → wr.cell? ⟨b2, o, none⟩ = some u := fun o u hu => (hb.cell (p := ⟨b2, o, none⟩) hbs2).trans hu
        simp only at c0 c1 c2 c3 c4 c5 c6 c7 c8 e0 e1 e2 e3 e4 e5 e6 e7 e8
        have r0 := hR _ _ c0
        have r1 := hR _ _ c1
        have r2 := hR _ _ c2
        have r3 := hR _ _ c3
        have r4 := hR _ _ c4
        have r5 := hR _ _ c5
        have r6 := hR _ _ c6
        have r7 := hR _ _ c7
        have r8 := hR _ _ c8
        have s0 := hR2 _ _ e0
        have s1 := hR2 _ _ e1
        have s2' := hR2 _ _ e2
        have s3 := hR2 _ _ e3
        have s4 := hR2 _ _ e4
        have s5 := hR2 _ _ e5
        have s6 := hR2 _ _ e6
        have s7 := hR2 _ _ e7
        have s8 := hR2 _ _ e8
        have hlb2 : b2 < wr.heap.size + 1 := by have := hb.size; omega
        have hlb : b2 < wr.heap.size := by have := hb.size; omega
        have hk1 := Lib.hid (kp_alloc (kp_alloc hb (.cells #[.slice A1 n1 cap1, .int .i64 ro, .bool inf, .int .i64 bm, .int .i64 bs, .int .i64 m, .int .i64 s, .bool td, .int .i64 ti] 46)) (.cells #[.slice A2 n2 cap2, .int .i64 ro2, .bool inf2, .int .i64 bm2, .int .i64 bs2, .int .i64 m2, .int .i64 s2, .bool td2, .int .i64 ti2] 46))
        have HB := Lib.hid hb
        clear hc hc2 c0 c1 c2 c3 c4 c5 c6 c7 c8 e0 e1 e2 e3 e4 e5 e6 e7 e8 hR hR2 hx hy hxp hyp hix hiy hbs hbs2 hb
        generalize sameP _ _ = C at *
        cases C with
        | true =>
          have hr := Lib.hid (hat.out.1 rfl)
          clear hat
          go_wp2_with fail
          refine (hcp.out _ hk1.out).mono ?_; rintro e w1 ⟨rfl, b1⟩
          have kB := trans9 hk1.out b1
          clear b1
          go_wp2_with fail
          go_roundw
          case rel => exact ⟨k + 1, hkl, by go_num, hr.out, kB⟩
          case measure => simp [intOf]; omega
        | false =>
          have hr := Lib.hid (hat.out.2 rfl)
          clear hat
          go_wp2_with fail
          refine (hcp.out _ hk1.out).mono ?_; rintro e w1 ⟨rfl, b1⟩
          have kB := trans9 hk1.out b1
          clear b1
          go_wp2_with fail
          go_ret
          exact ⟨by rw [hr.out]; rfl, kB⟩
      · have hr := Lib.hid (sameRow_end H.out (by rw [HL1.out]; omega) (by rw [HL2.out]; have := HNE.out; omega))
        go_wp2
        go_ret
        exact ⟨by rw [hr.out]; rfl, hb⟩
  · have dne : ((L.length : Int) == (M.length : Int)) = false := by rw [beq_eq_false_iff_ne]; omega
    have dne2 : (L.length == M.length) = false := by rw [beq_eq_false_iff_ne]; omega
    have hr := Lib.hid (sameRow_ne (l := pts L) (m := pts M) (by rw [hl1, hl2]; exact hne))
    clear hne hl1 hl2
    go_enter Tryz.func39, Tryz.ntmps39
    go_wp2
    go_ret
    exact ⟨by rw [hr.out]; rfl, Below.refl _ _⟩

theorem equal_head (h g : Hd) (w : World) : (Op.equalIn 10000 32 (hdv h) (hdv g)).run Tryz.prog w = .ok (decide (h = g)) w := by
  obtain ⟨n, k, u, e⟩ := h
  obtain ⟨n', k', u', e'⟩ := g
  have he : decide (Hd.mk n k u e = Hd.mk n' k' u' e') = decide (n = n' ∧ k = k' ∧ u = u' ∧ e = e') := by simp
  rw [he]
  clear he
  by_cases h1 : n = n'
  · subst h1
    by_cases h2 : k = k'
    · subst h2
      by_cases h3 : u = u'
      · subst h3
        by_cases h4 : e = e'
        · subst h4; go_simp
        · have d4 : (e == e') = false := by simpa using h4
          go_simp
      · have d3 : (u == u') = false := by simpa using h3
        go_simp
    · have d2 : (k == k') = false := by simpa using h2
      go_simp
  · have d1 : (n == n') = false := by simpa using h1
    go_simp
theorem eql_head (h g : Hd) (w : World) : (binOp .eql 32 (hdv h) (hdv g)).run Tryz.prog w = .ok (.bool (decide (h = g))) w := by
  rw [run_eql_struct, equal_head]; rfl
theorem neq_head (h g : Hd) (w : World) : (binOp .neq 32 (hdv h) (hdv g)).run Tryz.prog w = .ok (.bool (!decide (h = g))) w := by
  rw [run_neq_struct, equal_head]; rfl

/-- the same family -/
def sameF (h g : Hd) (l m : List Pt) : Bool := decide (h = g) && sameRow l m
set_option maxHeartbeats 4000000 in
theorem fsame_calls (h g : Hd) (L M : List Ps) (v u : Value) (w : World) (hv : PtRow w v L) (hu : PtRow w u M) (hn : L.length ≤ 1000) :
    Calls Tryz.prog 25 #[famv h v, famv g u] w fun e w' => e = .returned (.bool (sameF h g (pts L) (pts M))) ∧ Below w.heap.size w w' := by
  have hb0 : Below w.heap.size w ((w.alloc (.cells (famc h v) 35)).alloc (.cells (famc g u) 35)) := kp_alloc (kp_alloc (Below.refl _ _) _) _
  have hc := Lib.hid (eqf_calls L M v u _ (hv.below hb0) (hu.below hb0) hn)
  have he := fun W => eql_head h g W
  unfold sameF
  obtain ⟨A, cap, hv1⟩ : ∃ A cap, v = .slice A L.length cap := by obtain ⟨A, cap, h, _⟩ := hv.1; exact ⟨A, cap, h⟩
  obtain ⟨A2, cap2, hu1⟩ : ∃ A cap, u = .slice A M.length cap := by obtain ⟨A, cap, h, _⟩ := hu.1; exact ⟨A, cap, h⟩
  subst hv1 hu1
  generalize sameRow (pts L) (pts M) = R at *
  generalize L.length = n at *
  generalize M.length = n2 at *
  obtain ⟨hn1, hk, hu', hh⟩ := h
  obtain ⟨gn, gk, gu, gh⟩ := g
  generalize decide (Hd.mk hn1 hk hu' hh = Hd.mk gn gk gu gh) = E at *
  have HB := Lib.hid hb0
  clear hb0 hv hu hn
  cases E with
  | false =>
    go_enter Tryz.func25, Tryz.ntmps25
    go_wp2
    go_ret
    exact ⟨rfl, HB.out⟩
  | true =>
    go_enter Tryz.func25, Tryz.ntmps25
    go_wp2_with fail
    refine hc.out.mono ?_; rintro e w1 ⟨rfl, b1⟩
    have k1 := Lib.hid (trans9 HB.out b1)
    clear b1
    go_wp2
    go_ret
    exact ⟨rfl, k1.out⟩

end Go.Proofs.YtkmcjmpdmgdcoaaGreatDoor
