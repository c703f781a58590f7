/- The walk of the law MergeParts. -/
import Derived.Test.YtjeefgamkoeiaaaGreatDoorMrgLawS
set_option maxRecDepth 100000
set_option linter.unusedVariables false
set_option linter.unusedSimpArgs false
namespace Go.Proofs.YtjeefgamkoeiaaaGreatDoor
open Go.RowKit Go.Sort Dc
attribute [local go_sem ↓] Go.wp_at_zero Go.wp_at_succ

theorem mF_few (L : List Bp) : FpFew (mF L) := by
  by_cases h : mErr L = 0
  · rw [mF_good h]
    by_cases h0 : L = []
    · rw [h0]; exact few_nil'
    · exact few_ok ((mErr_zero h0).1 h).2
  · rw [mF_bad h]; exact few_nil'
theorem mT_len {L : List Bp} (h : ∀ b ∈ L, b.1.length ≤ maxLen) : (mT L).length ≤ maxLen := by
  by_cases e : mErr L = 0
  · rw [mT_good e]
    cases L with
    | nil => exact Nat.zero_le _
    | cons b L => exact h b List.mem_cons_self
  · rw [mT_bad e]; exact Nat.zero_le _
theorem same_ok2 (t s : List UInt8) (L M : List Fs) (v u : Value) (w : World) (hv : FmRow w v L) (hu : FmRow w u M) (hn : FpFew (fms L)) (h : fms L = fms M) (ht : t = s) :
    Calls Tryz.prog 12 #[batv t v, batv s u] w fun e w' => e = .returned (.bool true) ∧ Below w.heap.size w w' := by
  subst ht
  exact same_ok t L M v u w hv hu hn h
theorem bt_three' (w : World) (x y z : Bs) (h1 : FmRow w x.v x.F ∧ x.t.length ≤ maxLen) (h2 : FmRow w y.v y.F ∧ y.t.length ≤ maxLen) (h3 : FmRow w z.v z.F ∧ z.t.length ≤ maxLen) : BtRow (w.alloc (.cells #[.string (str x.t), x.v, .string (str y.t), y.v, .string (str z.t), z.v] 28)) (.slice (some ⟨w.heap.size, 0, none⟩) 3 3) [x, y, z] :=
  new_bt w [x, y, z] (by simp) (by simp) fun u hu => by
    simp only [List.mem_cons, List.not_mem_nil, or_false] at hu
    rcases hu with rfl | rfl | rfl
    · exact h1
    · exact h2
    · exact h3
theorem few_three' {x y z : Bs} (h1 : FpFew (fms x.F)) (h2 : FpFew (fms y.F)) (h3 : FpFew (fms z.F)) : BtFew [x, y, z] := bt_few (by simp) fun u hu => by
  simp only [List.mem_cons, List.not_mem_nil, or_false] at hu
  rcases hu with rfl | rfl | rfl
  · exact h1
  · exact h2
  · exact h3

set_option maxHeartbeats 32000000 in
theorem parts_walk (ta tb tc : List UInt8) (Fa Fb Fc : List Fs) (va vb vc : Value) (w : World) (hva : FmRow w va Fa) (hta : ta.length ≤ maxLen) (hvb : FmRow w vb Fb) (htb : tb.length ≤ maxLen) (hvc : FmRow w vc Fc) (htc : tc.length ≤ maxLen) (hT : ShPl w) :
    Calls Tryz.prog 5 #[batv ta va, batv tb vb, batv tc vc] w fun e w' => e = .returned (.bool true) ∧ Below w.heap.size w w' := by
  have k0 := kp_alloc (kp_alloc (kp_alloc (Below.refl w.heap.size w) (.cells #[.string (str ta), va] 28)) (.cells #[.string (str tb), vb] 28)) (.cells #[.string (str tc), vc] 28)
  have B0a := ((BatAt.new w ta va 28).alloc' (.cells #[.string (str tb), vb] 28)).alloc' (.cells #[.string (str tc), vc] 28)
  have B0b := (BatAt.new (w.alloc (.cells #[.string (str ta), va] 28)) tb vb 28).alloc' (.cells #[.string (str tc), vc] 28)
  have B0c := BatAt.new ((w.alloc (.cells #[.string (str ta), va] 28)).alloc (.cells #[.string (str tb), vb] 28)) tc vc 28
  rw [show (w.alloc (.cells #[.string (str ta), va] 28)).heap.size = w.heap.size + 1 by simp] at B0b
  rw [show ((w.alloc (.cells #[.string (str ta), va] 28)).alloc (.cells #[.string (str tb), vb] 28)).heap.size = w.heap.size + 1 + 1 by simp] at B0c
  have HVa := Lib.hid hva
  have HVb := Lib.hid hvb
  have HVc := Lib.hid hvc
  have HTa := Lib.hid hta
  have HTb := Lib.hid htb
  have HTc := Lib.hid htc
  have HT := Lib.hid (fun W (hW : Below w.heap.size w W) => shpl_below hT hW)
  obtain ⟨Aa, na, ca, hav⟩ : ∃ A n cap, va = .slice A n cap := by obtain ⟨A, cap, he, _⟩ := hva.1; exact ⟨A, _, cap, he⟩
  obtain ⟨Ab, nb, cb', hbv⟩ : ∃ A n cap, vb = .slice A n cap := by obtain ⟨A, cap, he, _⟩ := hvb.1; exact ⟨A, _, cap, he⟩
  obtain ⟨Ac, nc, cc, hcv⟩ : ∃ A n cap, vc = .slice A n cap := by obtain ⟨A, cap, he, _⟩ := hvc.1; exact ⟨A, _, cap, he⟩
  subst hav hbv hcv
  obtain ⟨W0, hW0⟩ : ∃ W, W = ((w.alloc (.cells #[.string (str ta), .slice Aa na ca] 28)).alloc (.cells #[.string (str tb), .slice Ab nb cb'] 28)).alloc (.cells #[.string (str tc), .slice Ac nc cc] 28) := ⟨_, rfl⟩
  rw [← hW0] at k0 B0a B0b B0c
  have K := Lib.hid k0
  have Ba := Lib.hid B0a
  have Bb := Lib.hid B0b
  have Bc := Lib.hid B0c
  have hT0 := Lib.hid (mknown_calls W0 (shpl_below hT k0))
  clear k0 B0a B0b B0c hva hvb hvc hta htb htc hT
  go_enter Tryz.func5, Tryz.ntmps5
  go_upto_region 1 with fail
  rw [← hW0]
  clear hW0
  go_wp2_with fail
  refine hT0.out.mono ?_; rintro e w1 ⟨rfl, b1⟩
  clear hT0
  replace K := Lib.hid (trans9 K.out b1)
  replace Ba := Lib.hid (Ba.out.below b1)
  replace Bb := Lib.hid (Bb.out.below b1)
  replace Bc := Lib.hid (Bc.out.below b1)
  clear b1
  obtain ⟨x0, x1, _, xl⟩ := Ba.out
  go_wp2_with fail
  refine (wide_calls ta Fa _ _ (HVa.out.below K.out)).mono ?_; rintro e w2 ⟨hW, b2⟩
  replace K := Lib.hid (trans9 K.out b2)
  replace Ba := Lib.hid (Ba.out.below b2)
  replace Bb := Lib.hid (Bb.out.below b2)
  replace Bc := Lib.hid (Bc.out.below b2)
  clear b2 x0 x1 xl
  rcases hW.ways with rfl | ⟨rfl, hfew⟩
  · go_wp2
    go_ret
    exact ⟨rfl, K.out⟩
  have HFa := Lib.hid hfew
  clear hfew
  obtain ⟨x0, x1, _, xl⟩ := Bb.out
  go_wp2_with fail
  refine (wide_calls tb Fb _ _ (HVb.out.below K.out)).mono ?_; rintro e w3 ⟨hW, b3⟩
  replace K := Lib.hid (trans9 K.out b3)
  replace Ba := Lib.hid (Ba.out.below b3)
  replace Bb := Lib.hid (Bb.out.below b3)
  replace Bc := Lib.hid (Bc.out.below b3)
  clear b3 x0 x1 xl
  rcases hW.ways with rfl | ⟨rfl, hfew⟩
  · go_wp2
    go_ret
    exact ⟨rfl, K.out⟩
  have HFb := Lib.hid hfew
  clear hfew
  obtain ⟨x0, x1, _, xl⟩ := Bc.out
  go_wp2_with fail
  refine (wide_calls tc Fc _ _ (HVc.out.below K.out)).mono ?_; rintro e w4 ⟨hW, b4⟩
  replace K := Lib.hid (trans9 K.out b4)
  replace Ba := Lib.hid (Ba.out.below b4)
  replace Bb := Lib.hid (Bb.out.below b4)
  replace Bc := Lib.hid (Bc.out.below b4)
  clear b4 x0 x1 xl
  rcases hW.ways with rfl | ⟨rfl, hfew⟩
  · go_wp2
    go_ret
    exact ⟨rfl, K.out⟩
  have HFc := Lib.hid hfew
  clear hfew
  obtain ⟨L3, hL3⟩ : ∃ L : List Bp, L = [(ta, fms Fa), (tb, fms Fb), (tc, fms Fc)] := ⟨_, rfl⟩
  obtain ⟨L2, hL2⟩ : ∃ L : List Bp, L = [(ta, fms Fa), (tb, fms Fb)] := ⟨_, rfl⟩
  obtain ⟨M2, hM2⟩ : ∃ L : List Bp, L = [(tb, fms Fb), (tc, fms Fc)] := ⟨_, rfl⟩
  have PL : Hid (mErr L2 = 0 → mErr [(mT L2, mF L2), (tc, fms Fc)] = mErr L3 ∧ mT [(mT L2, mF L2), (tc, fms Fc)] = mT L3 ∧ mF [(mT L2, mF L2), (tc, fms Fc)] = mF L3) := Lib.hid (by rw [hL2, hL3]; exact part_l)
  have PLB : Hid (mErr L2 ≠ 0 → mErr L3 ≠ 0) := Lib.hid (by rw [hL2, hL3]; exact part_lbad)
  have PR : Hid (mErr M2 = 0 → (mErr [(ta, fms Fa), (mT M2, mF M2)] = 0 ↔ mErr L3 = 0) ∧ mT [(ta, fms Fa), (mT M2, mF M2)] = mT L3 ∧ mF [(ta, fms Fa), (mT M2, mF M2)] = mF L3) := Lib.hid (by rw [hM2, hL3]; exact part_r)
  have PRB : Hid (mErr M2 ≠ 0 → mErr L3 ≠ 0) := Lib.hid (by rw [hM2, hL3]; exact part_rbad)
  have TL2 : Hid ((mT L2).length ≤ maxLen) := Lib.hid (mT_len (by
    rw [hL2]; intro b hb
    simp only [List.mem_cons, List.not_mem_nil, or_false] at hb
    rcases hb with rfl | rfl
    · exact HTa.out
    · exact HTb.out))
  have TM2 : Hid ((mT M2).length ≤ maxLen) := Lib.hid (mT_len (by
    rw [hM2]; intro b hb
    simp only [List.mem_cons, List.not_mem_nil, or_false] at hb
    rcases hb with rfl | rfl
    · exact HTb.out
    · exact HTc.out))
  have HE3 := Lib.hid hL3
  have HE2 := Lib.hid hL2
  have HEM := Lib.hid hM2
  clear hL3 hL2 hM2
  obtain ⟨a0, a1, _, al⟩ := Ba.out
  obtain ⟨b0, b1, _, bl⟩ := Bb.out
  obtain ⟨c0, c1, _, cl⟩ := Bc.out
  obtain ⟨W5, hW5⟩ : ∃ X, X = w4.alloc (.cells #[.string (str ta), .slice Aa na ca, .string (str tb), .slice Ab nb cb', .string (str tc), .slice Ac nc cc] 28) := ⟨_, rfl⟩
  have hb : Below w4.heap.size w4 W5 := by rw [hW5]; exact (Below.refl _ _).alloc (Nat.le_refl _) _
  have HBT : Hid (BtRow W5 (.slice (some ⟨w4.heap.size, 0, none⟩) 3 3) [⟨ta, .slice Aa na ca, Fa⟩, ⟨tb, .slice Ab nb cb', Fb⟩, ⟨tc, .slice Ac nc cc, Fc⟩]) := Lib.hid (by rw [hW5]; exact bt_three' _ ⟨ta, .slice Aa na ca, Fa⟩ ⟨tb, .slice Ab nb cb', Fb⟩ ⟨tc, .slice Ac nc cc, Fc⟩ ⟨HVa.out.below K.out, HTa.out⟩ ⟨HVb.out.below K.out, HTb.out⟩ ⟨HVc.out.below K.out, HTc.out⟩)
  replace K := Lib.hid (trans9 K.out hb)
  replace Ba := Lib.hid (Ba.out.below hb)
  replace Bb := Lib.hid (Bb.out.below hb)
  replace Bc := Lib.hid (Bc.out.below hb)
  have HM := Lib.hid (k_merge L3 [⟨ta, .slice Aa na ca, Fa⟩, ⟨tb, .slice Ab nb cb', Fb⟩, ⟨tc, .slice Ac nc cc, Fc⟩] _ W5 HBT.out (few_three' HFa.out.plain HFb.out.plain HFc.out.plain) (by rw [HE3.out]; rfl) (HT.out W5 K.out))
  go_wp2_with fail
  rw [← hW5]
  clear hW5 hb
  refine HM.out.mono ?_; rintro e w5 ⟨⟨Ax, nx, cx, Mx, rfl, rwx, hmx⟩, b5⟩
  replace K := Lib.hid (trans9 K.out b5)
  replace Ba := Lib.hid (Ba.out.below b5)
  replace Bb := Lib.hid (Bb.out.below b5)
  replace Bc := Lib.hid (Bc.out.below b5)
  have Rx := Lib.hid rwx
  have HMx := Lib.hid hmx
  clear b5 rwx hmx HM HBT a0 a1 al b0 b1 bl c0 c1 cl
  go_upto_region 6 with fail
  obtain ⟨W6, hW6⟩ : ∃ X, X = w5.alloc (.cells #[.string (str (mT L3)), .slice Ax nx cx] 28) := ⟨_, rfl⟩
  have hb : Below w5.heap.size w5 W6 := by rw [hW6]; exact (Below.refl _ _).alloc (Nat.le_refl _) _
  replace K := Lib.hid (trans9 K.out hb)
  replace Ba := Lib.hid (Ba.out.below hb)
  replace Bb := Lib.hid (Bb.out.below hb)
  replace Bc := Lib.hid (Bc.out.below hb)
  replace Rx := Lib.hid (Rx.out.below hb)
  have Bx : Hid (BatAt W6 w5.heap.size (mT L3) (.slice Ax nx cx)) := Lib.hid (by rw [hW6]; exact BatAt.new w5 _ _ _)
  rw [← hW6]
  clear hW6 hb
  generalize w5.heap.size = qx at *
  obtain ⟨a0, a1, _, al⟩ := Ba.out
  obtain ⟨b0, b1, _, bl⟩ := Bb.out
  obtain ⟨W7, hW7⟩ : ∃ X, X = W6.alloc (.cells #[.string (str ta), .slice Aa na ca, .string (str tb), .slice Ab nb cb'] 28) := ⟨_, rfl⟩
  have hb : Below W6.heap.size W6 W7 := by rw [hW7]; exact (Below.refl _ _).alloc (Nat.le_refl _) _
  have HBT : Hid (BtRow W7 (.slice (some ⟨W6.heap.size, 0, none⟩) 2 2) [⟨ta, .slice Aa na ca, Fa⟩, ⟨tb, .slice Ab nb cb', Fb⟩]) := Lib.hid (by rw [hW7]; exact bt_two' _ ⟨ta, .slice Aa na ca, Fa⟩ ⟨tb, .slice Ab nb cb', Fb⟩ ⟨HVa.out.below K.out, HTa.out⟩ ⟨HVb.out.below K.out, HTb.out⟩)
  replace K := Lib.hid (trans9 K.out hb)
  replace Ba := Lib.hid (Ba.out.below hb)
  replace Bb := Lib.hid (Bb.out.below hb)
  replace Bc := Lib.hid (Bc.out.below hb)
  replace Bx := Lib.hid (Bx.out.below hb)
  replace Rx := Lib.hid (Rx.out.below hb)
  have HM := Lib.hid (k_merge L2 [⟨ta, .slice Aa na ca, Fa⟩, ⟨tb, .slice Ab nb cb', Fb⟩] _ W7 HBT.out (few_two' HFa.out.plain HFb.out.plain) (by rw [HE2.out]; rfl) (HT.out W7 K.out))
  go_wp2_with fail
  rw [← hW7]
  clear hW7 hb
  refine HM.out.mono ?_; rintro e w7 ⟨⟨Ay, ny, cy, My, rfl, rwy, hmy⟩, b7⟩
  replace K := Lib.hid (trans9 K.out b7)
  replace Ba := Lib.hid (Ba.out.below b7)
  replace Bb := Lib.hid (Bb.out.below b7)
  replace Bc := Lib.hid (Bc.out.below b7)
  replace Bx := Lib.hid (Bx.out.below b7)
  replace Rx := Lib.hid (Rx.out.below b7)
  have Ry := Lib.hid rwy
  have HMy := Lib.hid hmy
  clear b7 rwy hmy HM HBT a0 a1 al b0 b1 bl
  go_upto_region 7 with fail
  obtain ⟨W8, hW8⟩ : ∃ X, X = w7.alloc (.cells #[.string (str (mT L2)), .slice Ay ny cy] 28) := ⟨_, rfl⟩
  have hb : Below w7.heap.size w7 W8 := by rw [hW8]; exact (Below.refl _ _).alloc (Nat.le_refl _) _
  replace K := Lib.hid (trans9 K.out hb)
  replace Ba := Lib.hid (Ba.out.below hb)
  replace Bb := Lib.hid (Bb.out.below hb)
  replace Bc := Lib.hid (Bc.out.below hb)
  replace Bx := Lib.hid (Bx.out.below hb)
  replace Rx := Lib.hid (Rx.out.below hb)
  replace Ry := Lib.hid (Ry.out.below hb)
  have By : Hid (BatAt W8 w7.heap.size (mT L2) (.slice Ay ny cy)) := Lib.hid (by rw [hW8]; exact BatAt.new w7 _ _ _)
  rw [← hW8]
  clear hW8 hb
  generalize w7.heap.size = qy at *
  by_cases hf : mErr L2 = 0
  · have d1 : (mErr L2 == 0) = true := by simpa using hf
    obtain ⟨pl1, pl2, pl3⟩ := PL.out hf
    have P1 := Lib.hid pl1
    have P2 := Lib.hid pl2
    have P3 := Lib.hid pl3
    clear pl1 pl2 pl3
    obtain ⟨y0, y1, _, yl⟩ := By.out
    obtain ⟨c0, c1, _, cl⟩ := Bc.out
    obtain ⟨W9, hW9⟩ : ∃ X, X = W8.alloc (.cells #[.string (str (mT L2)), .slice Ay ny cy, .string (str tc), .slice Ac nc cc] 28) := ⟨_, rfl⟩
    have hb : Below W8.heap.size W8 W9 := by rw [hW9]; exact (Below.refl _ _).alloc (Nat.le_refl _) _
    have HBT : Hid (BtRow W9 (.slice (some ⟨W8.heap.size, 0, none⟩) 2 2) [⟨(mT L2), .slice Ay ny cy, My⟩, ⟨tc, .slice Ac nc cc, Fc⟩]) := Lib.hid (by rw [hW9]; exact bt_two' _ ⟨(mT L2), .slice Ay ny cy, My⟩ ⟨tc, .slice Ac nc cc, Fc⟩ ⟨Ry.out, TL2.out⟩ ⟨HVc.out.below K.out, HTc.out⟩)
    replace K := Lib.hid (trans9 K.out hb)
    replace Ba := Lib.hid (Ba.out.below hb)
    replace Bb := Lib.hid (Bb.out.below hb)
    replace Bc := Lib.hid (Bc.out.below hb)
    replace Bx := Lib.hid (Bx.out.below hb)
    replace By := Lib.hid (By.out.below hb)
    replace Rx := Lib.hid (Rx.out.below hb)
    replace Ry := Lib.hid (Ry.out.below hb)
    have HM := Lib.hid (k_merge [(mT L2, mF L2), (tc, fms Fc)] [⟨(mT L2), .slice Ay ny cy, My⟩, ⟨tc, .slice Ac nc cc, Fc⟩] _ W9 HBT.out (few_two' (by rw [HMy.out]; exact mF_few _) HFc.out.plain) (by simp only [bps, bp, List.map_cons, List.map_nil, HMy.out]) (HT.out W9 K.out))
    go_wp2_with fail
    rw [← hW9]
    clear hW9 hb
    refine HM.out.mono ?_; rintro e w9 ⟨⟨Au, nu, cu, Mu, rfl, rwu, hmu⟩, b9⟩
    replace K := Lib.hid (trans9 K.out b9)
    replace Ba := Lib.hid (Ba.out.below b9)
    replace Bb := Lib.hid (Bb.out.below b9)
    replace Bc := Lib.hid (Bc.out.below b9)
    replace Bx := Lib.hid (Bx.out.below b9)
    replace By := Lib.hid (By.out.below b9)
    replace Rx := Lib.hid (Rx.out.below b9)
    replace Ry := Lib.hid (Ry.out.below b9)
    have Ru := Lib.hid rwu
    have HMu := Lib.hid hmu
    clear b9 rwu hmu HM HBT y0 y1 yl c0 c1 cl
    go_upto_region 9 with fail
    obtain ⟨W10, hW10⟩ : ∃ X, X = w9.alloc (.cells #[.string (str (mT [(mT L2, mF L2), (tc, fms Fc)])), .slice Au nu cu] 28) := ⟨_, rfl⟩
    have hb : Below w9.heap.size w9 W10 := by rw [hW10]; exact (Below.refl _ _).alloc (Nat.le_refl _) _
    replace K := Lib.hid (trans9 K.out hb)
    replace Ba := Lib.hid (Ba.out.below hb)
    replace Bb := Lib.hid (Bb.out.below hb)
    replace Bc := Lib.hid (Bc.out.below hb)
    replace Bx := Lib.hid (Bx.out.below hb)
    replace By := Lib.hid (By.out.below hb)
    replace Rx := Lib.hid (Rx.out.below hb)
    replace Ry := Lib.hid (Ry.out.below hb)
    replace Ru := Lib.hid (Ru.out.below hb)
    have Bu : Hid (BatAt W10 w9.heap.size (mT [(mT L2, mF L2), (tc, fms Fc)]) (.slice Au nu cu)) := Lib.hid (by rw [hW10]; exact BatAt.new w9 _ _ _)
    rw [← hW10]
    clear hW10 hb
    generalize w9.heap.size = qu at *
    obtain ⟨x0, x1, _, xl⟩ := Bx.out
    obtain ⟨u0, u1, _, ul⟩ := Bu.out
    have hs := Lib.hid (same_ok2 (mT L3) (mT [(mT L2, mF L2), (tc, fms Fc)]) Mx Mu (.slice Ax nx cx) (.slice Au nu cu) W10 Rx.out Ru.out (by rw [HMx.out]; exact mF_few _) (by rw [HMx.out, HMu.out, P3.out]) P2.out.symm)
    have he := P1.out
    have d2 : (mErr [(mT L2, mF L2), (tc, fms Fc)] == mErr L3) = true := by simpa using he
    have d3 : (mErr [(mT L2, mF L2), (tc, fms Fc)] != mErr L3) = false := by simpa using he
    rw [he] at d2 d3 ⊢
    clear he
    go_wp2_with fail
    refine hs.out.mono ?_; rintro e w11 ⟨rfl, b11⟩
    replace K := Lib.hid (trans9 K.out b11)
    replace Ba := Lib.hid (Ba.out.below b11)
    replace Bb := Lib.hid (Bb.out.below b11)
    replace Bc := Lib.hid (Bc.out.below b11)
    replace Bx := Lib.hid (Bx.out.below b11)
    replace By := Lib.hid (By.out.below b11)
    replace Bu := Lib.hid (Bu.out.below b11)
    replace Rx := Lib.hid (Rx.out.below b11)
    replace Ry := Lib.hid (Ry.out.below b11)
    replace Ru := Lib.hid (Ru.out.below b11)
    clear b11 hs x0 x1 xl u0 u1 ul d2 d3 P1 P2 P3 Bu Ru HMu
    clear By Ry HMy
    obtain ⟨b0, b1, _, bl⟩ := Bb.out
    obtain ⟨c0, c1, _, cl⟩ := Bc.out
    obtain ⟨W12, hW12⟩ : ∃ X, X = w11.alloc (.cells #[.string (str tb), .slice Ab nb cb', .string (str tc), .slice Ac nc cc] 28) := ⟨_, rfl⟩
    have hb : Below w11.heap.size w11 W12 := by rw [hW12]; exact (Below.refl _ _).alloc (Nat.le_refl _) _
    have HBT : Hid (BtRow W12 (.slice (some ⟨w11.heap.size, 0, none⟩) 2 2) [⟨tb, .slice Ab nb cb', Fb⟩, ⟨tc, .slice Ac nc cc, Fc⟩]) := Lib.hid (by rw [hW12]; exact bt_two' _ ⟨tb, .slice Ab nb cb', Fb⟩ ⟨tc, .slice Ac nc cc, Fc⟩ ⟨HVb.out.below K.out, HTb.out⟩ ⟨HVc.out.below K.out, HTc.out⟩)
    replace K := Lib.hid (trans9 K.out hb)
    replace Ba := Lib.hid (Ba.out.below hb)
    replace Bb := Lib.hid (Bb.out.below hb)
    replace Bc := Lib.hid (Bc.out.below hb)
    replace Bx := Lib.hid (Bx.out.below hb)
    replace Rx := Lib.hid (Rx.out.below hb)
    have HM := Lib.hid (k_merge M2 [⟨tb, .slice Ab nb cb', Fb⟩, ⟨tc, .slice Ac nc cc, Fc⟩] _ W12 HBT.out (few_two' HFb.out.plain HFc.out.plain) (by rw [HEM.out]; rfl) (HT.out W12 K.out))
    go_wp2_with fail
    rw [← hW12]
    clear hW12 hb
    refine HM.out.mono ?_; rintro e w12 ⟨⟨Az, nz, cz, Mz, rfl, rwz, hmz⟩, b12⟩
    replace K := Lib.hid (trans9 K.out b12)
    replace Ba := Lib.hid (Ba.out.below b12)
    replace Bb := Lib.hid (Bb.out.below b12)
    replace Bc := Lib.hid (Bc.out.below b12)
    replace Bx := Lib.hid (Bx.out.below b12)
    replace Rx := Lib.hid (Rx.out.below b12)
    have Rz := Lib.hid rwz
    have HMz := Lib.hid hmz
    clear b12 rwz hmz HM HBT b0 b1 bl c0 c1 cl
    go_upto_region 14 with fail
    obtain ⟨W13, hW13⟩ : ∃ X, X = w12.alloc (.cells #[.string (str (mT M2)), .slice Az nz cz] 28) := ⟨_, rfl⟩
    have hb : Below w12.heap.size w12 W13 := by rw [hW13]; exact (Below.refl _ _).alloc (Nat.le_refl _) _
    replace K := Lib.hid (trans9 K.out hb)
    replace Ba := Lib.hid (Ba.out.below hb)
    replace Bb := Lib.hid (Bb.out.below hb)
    replace Bc := Lib.hid (Bc.out.below hb)
    replace Bx := Lib.hid (Bx.out.below hb)
    replace Rx := Lib.hid (Rx.out.below hb)
    replace Rz := Lib.hid (Rz.out.below hb)
    have Bz : Hid (BatAt W13 w12.heap.size (mT M2) (.slice Az nz cz)) := Lib.hid (by rw [hW13]; exact BatAt.new w12 _ _ _)
    rw [← hW13]
    clear hW13 hb
    generalize w12.heap.size = qz at *
    by_cases hf2 : mErr M2 = 0
    · have g2 := hf2
      have d5 : (mErr M2 == 0) = true := by simpa using hf2
      obtain ⟨pr1, pr2, pr3⟩ := PR.out hf2
      have P1 := Lib.hid pr1
      have P2 := Lib.hid pr2
      have P3 := Lib.hid pr3
      clear pr1 pr2 pr3
      obtain ⟨a0, a1, _, al⟩ := Ba.out
      obtain ⟨z0, z1, _, zl⟩ := Bz.out
      obtain ⟨W14, hW14⟩ : ∃ X, X = W13.alloc (.cells #[.string (str ta), .slice Aa na ca, .string (str (mT M2)), .slice Az nz cz] 28) := ⟨_, rfl⟩
      have hb : Below W13.heap.size W13 W14 := by rw [hW14]; exact (Below.refl _ _).alloc (Nat.le_refl _) _
      have HBT : Hid (BtRow W14 (.slice (some ⟨W13.heap.size, 0, none⟩) 2 2) [⟨ta, .slice Aa na ca, Fa⟩, ⟨(mT M2), .slice Az nz cz, Mz⟩]) := Lib.hid (by rw [hW14]; exact bt_two' _ ⟨ta, .slice Aa na ca, Fa⟩ ⟨(mT M2), .slice Az nz cz, Mz⟩ ⟨HVa.out.below K.out, HTa.out⟩ ⟨Rz.out, TM2.out⟩)
      replace K := Lib.hid (trans9 K.out hb)
      replace Ba := Lib.hid (Ba.out.below hb)
      replace Bb := Lib.hid (Bb.out.below hb)
      replace Bc := Lib.hid (Bc.out.below hb)
      replace Bx := Lib.hid (Bx.out.below hb)
      replace Bz := Lib.hid (Bz.out.below hb)
      replace Rx := Lib.hid (Rx.out.below hb)
      replace Rz := Lib.hid (Rz.out.below hb)
      have HM := Lib.hid (k_merge [(ta, fms Fa), (mT M2, mF M2)] [⟨ta, .slice Aa na ca, Fa⟩, ⟨(mT M2), .slice Az nz cz, Mz⟩] _ W14 HBT.out (few_two' HFa.out.plain (by rw [HMz.out]; exact mF_few _)) (by simp only [bps, bp, List.map_cons, List.map_nil, HMz.out]) (HT.out W14 K.out))
      go_wp2_with fail
      rw [← hW14]
      clear hW14 hb
      refine HM.out.mono ?_; rintro e w14 ⟨⟨Ar, nr, cr, Mr, rfl, rwr, hmr⟩, b14⟩
      replace K := Lib.hid (trans9 K.out b14)
      replace Ba := Lib.hid (Ba.out.below b14)
      replace Bb := Lib.hid (Bb.out.below b14)
      replace Bc := Lib.hid (Bc.out.below b14)
      replace Bx := Lib.hid (Bx.out.below b14)
      replace Bz := Lib.hid (Bz.out.below b14)
      replace Rx := Lib.hid (Rx.out.below b14)
      replace Rz := Lib.hid (Rz.out.below b14)
      have Rr := Lib.hid rwr
      have HMr := Lib.hid hmr
      clear b14 rwr hmr HM HBT a0 a1 al z0 z1 zl
      go_upto_region 17 with fail
      obtain ⟨W15, hW15⟩ : ∃ X, X = w14.alloc (.cells #[.string (str (mT [(ta, fms Fa), (mT M2, mF M2)])), .slice Ar nr cr] 28) := ⟨_, rfl⟩
      have hb : Below w14.heap.size w14 W15 := by rw [hW15]; exact (Below.refl _ _).alloc (Nat.le_refl _) _
      replace K := Lib.hid (trans9 K.out hb)
      replace Ba := Lib.hid (Ba.out.below hb)
      replace Bb := Lib.hid (Bb.out.below hb)
      replace Bc := Lib.hid (Bc.out.below hb)
      replace Bx := Lib.hid (Bx.out.below hb)
      replace Bz := Lib.hid (Bz.out.below hb)
      replace Rx := Lib.hid (Rx.out.below hb)
      replace Rz := Lib.hid (Rz.out.below hb)
      replace Rr := Lib.hid (Rr.out.below hb)
      have Br : Hid (BatAt W15 w14.heap.size (mT [(ta, fms Fa), (mT M2, mF M2)]) (.slice Ar nr cr)) := Lib.hid (by rw [hW15]; exact BatAt.new w14 _ _ _)
      rw [← hW15]
      clear hW15 hb
      generalize w14.heap.size = qr at *
      by_cases h3 : mErr L3 = 0
      · have h4 := P1.out.2 h3
        have d6 : (mErr L3 == 0) = true := by simpa using h3
        have d7 : (mErr [(ta, fms Fa), (mT M2, mF M2)] == 0) = true := by simpa using h4
        obtain ⟨x0, x1, _, xl⟩ := Bx.out
        obtain ⟨r0, r1, _, rl⟩ := Br.out
        have hs := Lib.hid (same_ok2 (mT L3) (mT [(ta, fms Fa), (mT M2, mF M2)]) Mx Mr (.slice Ax nx cx) (.slice Ar nr cr) W15 Rx.out Rr.out (by rw [HMx.out]; exact mF_few _) (by rw [HMx.out, HMr.out, P3.out]) P2.out.symm)
        go_wp2_with fail
        refine hs.out.mono ?_; rintro e w16 ⟨rfl, b16⟩
        have K9 := Lib.hid (trans9 K.out b16)
        clear b16 hs x0 x1 xl r0 r1 rl
        go_wp2
        go_ret
        exact ⟨rfl, K9.out⟩
      · have h4 : ¬ mErr [(ta, fms Fa), (mT M2, mF M2)] = 0 := fun e => h3 (P1.out.1 e)
        have d6 : (mErr L3 == 0) = false := by simpa using h3
        have d7 : (mErr [(ta, fms Fa), (mT M2, mF M2)] == 0) = false := by simpa using h4
        obtain ⟨x0, x1, _, xl⟩ := Bx.out
        obtain ⟨r0, r1, _, rl⟩ := Br.out
        have hs := Lib.hid (same_ok2 (mT L3) (mT [(ta, fms Fa), (mT M2, mF M2)]) Mx Mr (.slice Ax nx cx) (.slice Ar nr cr) W15 Rx.out Rr.out (by rw [HMx.out]; exact mF_few _) (by rw [HMx.out, HMr.out, P3.out]) P2.out.symm)
        go_wp2_with fail
        refine hs.out.mono ?_; rintro e w16 ⟨rfl, b16⟩
        have K9 := Lib.hid (trans9 K.out b16)
        clear b16 hs x0 x1 xl r0 r1 rl
        go_wp2
        go_ret
        exact ⟨rfl, K9.out⟩
    · have h3 := PRB.out hf2
      have d5 : (mErr M2 == 0) = false := by simpa using hf2
      have d5' : (mErr M2 != 0) = true := by simpa using hf2
      have d6 : (mErr L3 == 0) = false := by simpa using h3
      have d6' : (mErr L3 != 0) = true := by simpa using h3
      go_wp2
      go_ret
      exact ⟨rfl, K.out⟩
  · have h3 := PLB.out hf
    have d1 : (mErr L2 == 0) = false := by simpa using hf
    have d2 : (mErr L3 == 0) = false := by simpa using h3
    clear By Ry HMy
    obtain ⟨b0, b1, _, bl⟩ := Bb.out
    obtain ⟨c0, c1, _, cl⟩ := Bc.out
    obtain ⟨W9, hW9⟩ : ∃ X, X = W8.alloc (.cells #[.string (str tb), .slice Ab nb cb', .string (str tc), .slice Ac nc cc] 28) := ⟨_, rfl⟩
    have hb : Below W8.heap.size W8 W9 := by rw [hW9]; exact (Below.refl _ _).alloc (Nat.le_refl _) _
    have HBT : Hid (BtRow W9 (.slice (some ⟨W8.heap.size, 0, none⟩) 2 2) [⟨tb, .slice Ab nb cb', Fb⟩, ⟨tc, .slice Ac nc cc, Fc⟩]) := Lib.hid (by rw [hW9]; exact bt_two' _ ⟨tb, .slice Ab nb cb', Fb⟩ ⟨tc, .slice Ac nc cc, Fc⟩ ⟨HVb.out.below K.out, HTb.out⟩ ⟨HVc.out.below K.out, HTc.out⟩)
    replace K := Lib.hid (trans9 K.out hb)
    replace Ba := Lib.hid (Ba.out.below hb)
    replace Bb := Lib.hid (Bb.out.below hb)
    replace Bc := Lib.hid (Bc.out.below hb)
    replace Bx := Lib.hid (Bx.out.below hb)
    replace Rx := Lib.hid (Rx.out.below hb)
    have HM := Lib.hid (k_merge M2 [⟨tb, .slice Ab nb cb', Fb⟩, ⟨tc, .slice Ac nc cc, Fc⟩] _ W9 HBT.out (few_two' HFb.out.plain HFc.out.plain) (by rw [HEM.out]; rfl) (HT.out W9 K.out))
    go_wp2_with fail
    rw [← hW9]
    clear hW9 hb
    refine HM.out.mono ?_; rintro e w9 ⟨⟨Az, nz, cz, Mz, rfl, rwz, hmz⟩, b9⟩
    replace K := Lib.hid (trans9 K.out b9)
    replace Ba := Lib.hid (Ba.out.below b9)
    replace Bb := Lib.hid (Bb.out.below b9)
    replace Bc := Lib.hid (Bc.out.below b9)
    replace Bx := Lib.hid (Bx.out.below b9)
    replace Rx := Lib.hid (Rx.out.below b9)
    have Rz := Lib.hid rwz
    have HMz := Lib.hid hmz
    clear b9 rwz hmz HM HBT b0 b1 bl c0 c1 cl
    go_upto_region 14 with fail
    obtain ⟨W10, hW10⟩ : ∃ X, X = w9.alloc (.cells #[.string (str (mT M2)), .slice Az nz cz] 28) := ⟨_, rfl⟩
    have hb : Below w9.heap.size w9 W10 := by rw [hW10]; exact (Below.refl _ _).alloc (Nat.le_refl _) _
    replace K := Lib.hid (trans9 K.out hb)
    replace Ba := Lib.hid (Ba.out.below hb)
    replace Bb := Lib.hid (Bb.out.below hb)
    replace Bc := Lib.hid (Bc.out.below hb)
    replace Bx := Lib.hid (Bx.out.below hb)
    replace Rx := Lib.hid (Rx.out.below hb)
    replace Rz := Lib.hid (Rz.out.below hb)
    have Bz : Hid (BatAt W10 w9.heap.size (mT M2) (.slice Az nz cz)) := Lib.hid (by rw [hW10]; exact BatAt.new w9 _ _ _)
    rw [← hW10]
    clear hW10 hb
    generalize w9.heap.size = qz at *
    by_cases hf2 : mErr M2 = 0
    · have g2 := hf2
      have d5 : (mErr M2 == 0) = true := by simpa using hf2
      obtain ⟨pr1, pr2, pr3⟩ := PR.out hf2
      have P1 := Lib.hid pr1
      have P2 := Lib.hid pr2
      have P3 := Lib.hid pr3
      clear pr1 pr2 pr3
      obtain ⟨a0, a1, _, al⟩ := Ba.out
      obtain ⟨z0, z1, _, zl⟩ := Bz.out
      obtain ⟨W11, hW11⟩ : ∃ X, X = W10.alloc (.cells #[.string (str ta), .slice Aa na ca, .string (str (mT M2)), .slice Az nz cz] 28) := ⟨_, rfl⟩
      have hb : Below W10.heap.size W10 W11 := by rw [hW11]; exact (Below.refl _ _).alloc (Nat.le_refl _) _
      have HBT : Hid (BtRow W11 (.slice (some ⟨W10.heap.size, 0, none⟩) 2 2) [⟨ta, .slice Aa na ca, Fa⟩, ⟨(mT M2), .slice Az nz cz, Mz⟩]) := Lib.hid (by rw [hW11]; exact bt_two' _ ⟨ta, .slice Aa na ca, Fa⟩ ⟨(mT M2), .slice Az nz cz, Mz⟩ ⟨HVa.out.below K.out, HTa.out⟩ ⟨Rz.out, TM2.out⟩)
      replace K := Lib.hid (trans9 K.out hb)
      replace Ba := Lib.hid (Ba.out.below hb)
      replace Bb := Lib.hid (Bb.out.below hb)
      replace Bc := Lib.hid (Bc.out.below hb)
      replace Bx := Lib.hid (Bx.out.below hb)
      replace Bz := Lib.hid (Bz.out.below hb)
      replace Rx := Lib.hid (Rx.out.below hb)
      replace Rz := Lib.hid (Rz.out.below hb)
      have HM := Lib.hid (k_merge [(ta, fms Fa), (mT M2, mF M2)] [⟨ta, .slice Aa na ca, Fa⟩, ⟨(mT M2), .slice Az nz cz, Mz⟩] _ W11 HBT.out (few_two' HFa.out.plain (by rw [HMz.out]; exact mF_few _)) (by simp only [bps, bp, List.map_cons, List.map_nil, HMz.out]) (HT.out W11 K.out))
      go_wp2_with fail
      rw [← hW11]
      clear hW11 hb
      refine HM.out.mono ?_; rintro e w11 ⟨⟨Ar, nr, cr, Mr, rfl, rwr, hmr⟩, b11⟩
      replace K := Lib.hid (trans9 K.out b11)
      replace Ba := Lib.hid (Ba.out.below b11)
      replace Bb := Lib.hid (Bb.out.below b11)
      replace Bc := Lib.hid (Bc.out.below b11)
      replace Bx := Lib.hid (Bx.out.below b11)
      replace Bz := Lib.hid (Bz.out.below b11)
      replace Rx := Lib.hid (Rx.out.below b11)
      replace Rz := Lib.hid (Rz.out.below b11)
      have Rr := Lib.hid rwr
      have HMr := Lib.hid hmr
      clear b11 rwr hmr HM HBT a0 a1 al z0 z1 zl
      go_upto_region 17 with fail
      obtain ⟨W12, hW12⟩ : ∃ X, X = w11.alloc (.cells #[.string (str (mT [(ta, fms Fa), (mT M2, mF M2)])), .slice Ar nr cr] 28) := ⟨_, rfl⟩
      have hb : Below w11.heap.size w11 W12 := by rw [hW12]; exact (Below.refl _ _).alloc (Nat.le_refl _) _
      replace K := Lib.hid (trans9 K.out hb)
      replace Ba := Lib.hid (Ba.out.below hb)
      replace Bb := Lib.hid (Bb.out.below hb)
      replace Bc := Lib.hid (Bc.out.below hb)
      replace Bx := Lib.hid (Bx.out.below hb)
      replace Bz := Lib.hid (Bz.out.below hb)
      replace Rx := Lib.hid (Rx.out.below hb)
      replace Rz := Lib.hid (Rz.out.below hb)
      replace Rr := Lib.hid (Rr.out.below hb)
      have Br : Hid (BatAt W12 w11.heap.size (mT [(ta, fms Fa), (mT M2, mF M2)]) (.slice Ar nr cr)) := Lib.hid (by rw [hW12]; exact BatAt.new w11 _ _ _)
      rw [← hW12]
      clear hW12 hb
      generalize w11.heap.size = qr at *
      by_cases h3 : mErr L3 = 0
      · have h4 := P1.out.2 h3
        have d6 : (mErr L3 == 0) = true := by simpa using h3
        have d7 : (mErr [(ta, fms Fa), (mT M2, mF M2)] == 0) = true := by simpa using h4
        obtain ⟨x0, x1, _, xl⟩ := Bx.out
        obtain ⟨r0, r1, _, rl⟩ := Br.out
        have hs := Lib.hid (same_ok2 (mT L3) (mT [(ta, fms Fa), (mT M2, mF M2)]) Mx Mr (.slice Ax nx cx) (.slice Ar nr cr) W12 Rx.out Rr.out (by rw [HMx.out]; exact mF_few _) (by rw [HMx.out, HMr.out, P3.out]) P2.out.symm)
        go_wp2_with fail
        refine hs.out.mono ?_; rintro e w13 ⟨rfl, b13⟩
        have K9 := Lib.hid (trans9 K.out b13)
        clear b13 hs x0 x1 xl r0 r1 rl
        go_wp2
        go_ret
        exact ⟨rfl, K9.out⟩
      · have h4 : ¬ mErr [(ta, fms Fa), (mT M2, mF M2)] = 0 := fun e => h3 (P1.out.1 e)
        have d6 : (mErr L3 == 0) = false := by simpa using h3
        have d7 : (mErr [(ta, fms Fa), (mT M2, mF M2)] == 0) = false := by simpa using h4
        obtain ⟨x0, x1, _, xl⟩ := Bx.out
        obtain ⟨r0, r1, _, rl⟩ := Br.out
        have hs := Lib.hid (same_ok2 (mT L3) (mT [(ta, fms Fa), (mT M2, mF M2)]) Mx Mr (.slice Ax nx cx) (.slice Ar nr cr) W12 Rx.out Rr.out (by rw [HMx.out]; exact mF_few _) (by rw [HMx.out, HMr.out, P3.out]) P2.out.symm)
        go_wp2_with fail
        refine hs.out.mono ?_; rintro e w13 ⟨rfl, b13⟩
        have K9 := Lib.hid (trans9 K.out b13)
        clear b13 hs x0 x1 xl r0 r1 rl
        go_wp2
        go_ret
        exact ⟨rfl, K9.out⟩
    · have h3 := PRB.out hf2
      have d5 : (mErr M2 == 0) = false := by simpa using hf2
      have d5' : (mErr M2 != 0) = true := by simpa using hf2
      have d6 : (mErr L3 == 0) = false := by simpa using h3
      have d6' : (mErr L3 != 0) = true := by simpa using h3
      go_wp2
      go_ret
      exact ⟨rfl, K.out⟩

end Go.Proofs.YtjeefgamkoeiaaaGreatDoor
