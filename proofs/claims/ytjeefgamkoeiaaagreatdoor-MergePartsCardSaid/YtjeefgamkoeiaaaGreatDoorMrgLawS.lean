/- The walk of the law MergeSelf. -/
import Derived.Test.YtjeefgamkoeiaaaGreatDoorMrgK
import Derived.Test.YtjeefgamkoeiaaaGreatDoorMrgP
import Derived.Test.YtjeefgamkoeiaaaGreatDoorRefMrgA
import Derived.Test.YtjeefgamkoeiaaaGreatDoorBatW
import Derived.Test.YtjeefgamkoeiaaaGreatDoorRefBatW
set_option maxRecDepth 100000
set_option linter.unusedVariables false
set_option linter.unusedSimpArgs false
namespace Go.Proofs.YtjeefgamkoeiaaaGreatDoor
open Go.RowKit Go.Sort Dc
attribute [local go_sem ↓] Go.wp_at_zero Go.wp_at_succ

/-- Merge of batches that can be put together -/
theorem k_good (L : List Bp) (l : List Bs) (v : Value) (w : World) (t : List UInt8) (G : List Fp) (hv : BtRow w v l) (hf : BtFew l) (hl : bps l = L) (he : mErr L = 0 ∧ mT L = t ∧ mF L = G) (hT : ShPl w) :
    Calls Tryz.prog 10 #[v] w fun e w' => (∃ A n cap M, e = .returned (.tuple #[batv t (.slice A n cap), .int .i64 0]) ∧ FmRow w' (.slice A n cap) M ∧ fms M = G) ∧ Below w.heap.size w w' := by
  refine (k_merge L l v w hv hf hl hT).mono ?_
  rintro e w' ⟨⟨A, n, cap, M, rfl, hr, hm⟩, hb⟩
  obtain ⟨h0, h1, h2⟩ := he
  rw [h0, h1]
  exact ⟨⟨A, n, cap, M, rfl, hr, by rw [hm, h2]⟩, hb⟩
theorem bt_two' (w : World) (x y : Bs) (h1 : FmRow w x.v x.F ∧ x.t.length ≤ maxLen) (h2 : FmRow w y.v y.F ∧ y.t.length ≤ maxLen) : BtRow (w.alloc (.cells #[.string (str x.t), x.v, .string (str y.t), y.v] 28)) (.slice (some ⟨w.heap.size, 0, none⟩) 2 2) [x, y] :=
  new_bt w [x, y] (by simp) (by simp) fun z hz => by
    simp only [List.mem_cons, List.not_mem_nil, or_false] at hz
    rcases hz with rfl | rfl
    · exact h1
    · exact h2
theorem bt_one' (w : World) (x : Bs) (h1 : FmRow w x.v x.F ∧ x.t.length ≤ maxLen) : BtRow (w.alloc (.cells #[.string (str x.t), x.v] 28)) (.slice (some ⟨w.heap.size, 0, none⟩) 1 1) [x] :=
  new_bt w [x] (by simp) (by simp) fun z hz => by rw [List.mem_singleton.1 hz]; exact h1
theorem few_two' {x y : Bs} (h1 : FpFew (fms x.F)) (h2 : FpFew (fms y.F)) : BtFew [x, y] := bt_few (by simp) fun z hz => by
  simp only [List.mem_cons, List.not_mem_nil, or_false] at hz
  rcases hz with rfl | rfl
  · exact h1
  · exact h2
theorem few_one' {x : Bs} (h1 : FpFew (fms x.F)) : BtFew [x] := bt_few (by simp) fun z hz => by rw [List.mem_singleton.1 hz]; exact h1
theorem few_nil' : FpFew ([] : List Fp) := ⟨by simp, fun x hx => (by cases hx), fun x hx => (by cases hx)⟩
theorem min_few {es : Nat → ByteArray} {n : Nat} {F : List Fp} (h : FpFew F) : FpFew (minF es n F) := by
  have hl : (minF es n F).length ≤ F.length := List.length_filter_le _ _
  exact ⟨by have := h.n; omega, fun x hx => h.p x (List.mem_filter.1 hx).1, fun x hx => h.l x (List.mem_filter.1 hx).1⟩
theorem min_strict {es : Nat → ByteArray} {n : Nat} {F : List Fp} (h : StrictT cmpF F) : StrictT cmpF (minF es n F) := h.filter _
/-- a value that comes back in a world where a slice of it is alike -/
theorem same_ok (t : List UInt8) (L M : List Fs) (v u : Value) (w : World) (hv : FmRow w v L) (hu : FmRow w u M) (hn : FpFew (fms L)) (h : fms L = fms M) :
    Calls Tryz.prog 12 #[batv t v, batv t u] w fun e w' => e = .returned (.bool true) ∧ Below w.heap.size w w' := by
  have hs := brsame_calls t t L M v u w hv hu hn.rows
  rw [h, sameB_refl] at hs
  exact hs

set_option maxHeartbeats 32000000 in
theorem self_walk (t : List UInt8) (F : List Fs) (v u : Value) (nn : Nat) (es : Nat → ByteArray) (w : World) (hv : FmRow w v F) (ht : t.length ≤ maxLen) (hu : StrRow w u nn es) (hT : ShPl w) :
    Calls Tryz.prog 4 #[batv t v, u] w fun e w' => e = .returned (.bool true) ∧ Below w.heap.size w w' := by
  have k0 := kp_alloc (Below.refl w.heap.size w) (.cells #[.string (str t), v] 28)
  have K0 := Lib.hid k0
  have B0 := Lib.hid (BatAt.new w t v 28)
  have HV := Lib.hid hv
  have HU := Lib.hid (fun W (hW : Below w.heap.size w W) => strRow_below hu hW)
  have HT := Lib.hid (fun W (hW : Below w.heap.size w W) => shpl_below hT hW)
  have hT0 := Lib.hid (mknown_calls _ (shpl_below hT k0))
  have HTL := Lib.hid ht
  obtain ⟨A, n, cap, hv1⟩ : ∃ A n cap, v = .slice A n cap := by obtain ⟨A, cap, he, _⟩ := hv.1; exact ⟨A, _, cap, he⟩
  subst hv1
  obtain ⟨ua, ucap, hu1, hu2, hu3, _⟩ := hu
  subst hu1
  unfold maxLen at hu3
  clear k0 hv hT ht
  go_enter Tryz.func4, Tryz.ntmps4
  go_wp2_with fail
  refine hT0.out.mono ?_; rintro e w1 ⟨rfl, b1⟩
  have K1 := Lib.hid (trans9 K0.out b1)
  have B1 := Lib.hid (B0.out.below b1)
  clear b1 hT0 K0 B0
  obtain ⟨x0, x1, xf, xl⟩ := B1.out
  go_wp2_with fail
  refine (wide_calls t F _ _ (HV.out.below K1.out)).mono ?_; rintro e w2 ⟨hW, b2⟩
  have K2 := Lib.hid (trans9 K1.out b2)
  have B2 := Lib.hid (B1.out.below b2)
  clear b2 K1 B1 x0 x1 xf xl
  obtain ⟨x0, x1, xf, xl⟩ := B2.out
  rcases hW.ways with rfl | ⟨rfl, hfew⟩
  · go_wp2
    go_ret
    exact ⟨rfl, K2.out⟩
  have HF := Lib.hid hfew
  clear hfew
  go_wp2_with fail
  refine (rcheck_calls t F _ _ (HV.out.below K2.out) HF.out HTL.out).mono ?_; rintro e w3 ⟨rfl, b3⟩
  have K3 := Lib.hid (trans9 K2.out b3)
  have B3 := Lib.hid (B2.out.below b3)
  clear b3 K2 B2 x0 x1 xf xl
  obtain ⟨x0, x1, xf, xl⟩ := B3.out
  obtain ⟨C, hC⟩ : ∃ C, C = chk t (fms F) := ⟨_, rfl⟩
  rw [← hC]
  have HC := Lib.hid hC
  clear hC
  by_cases hC0 : ¬ C = 0
  · have d0 : (C == 0) = false := by simpa using hC0
    have d1 : (C != 0) = true := by simpa using hC0
    clear hC0
    go_wp2
    go_ret
    exact ⟨rfl, K3.out⟩
  have hC0' : C = 0 := Classical.not_not.1 hC0
  clear hC0
  subst hC0'
  have hCz : chk t (fms F) = 0 := HC.out.symm
  by_cases h8 : (8 : Int) < (nn : Int)
  · have d8 : decide ((8 : Int) < (nn : Int)) = true := decide_eq_true h8
    have d8' : decide (8 < nn) = true := by simp; omega
    go_wp2
    go_ret
    exact ⟨rfl, K3.out⟩
  have d8 : decide ((8 : Int) < (nn : Int)) = false := decide_eq_false h8
  have d8' : decide (8 < nn) = false := by simp; omega
  have hsb := (chk_parts (b := (t, fms F)) hCz).1
  have HFP := Lib.hid HF.out.plain
  have HPF : Hid (FpFew (minF es nn (fms F))) := Lib.hid (min_few HFP.out)
  have E1 : Hid (mErr [(t, fms F), (t, fms F)] = 0 ∧ mT [(t, fms F), (t, fms F)] = t ∧ mF [(t, fms F), (t, fms F)] = fms F) := Lib.hid (self_sub (b := (t, fms F)) (p := (t, fms F)) hCz rfl hsb (fun _ h => h)).1
  have E2 : Hid (mErr [(t, fms F)] = 0 ∧ mT [(t, fms F)] = t ∧ mF [(t, fms F)] = fms F) := Lib.hid (self_one (b := (t, fms F)) hCz)
  have EP := self_sub (b := (t, fms F)) (p := (t, minF es nn (fms F))) hCz rfl (min_strict hsb) (fun x h => (List.mem_filter.1 h).1)
  have E3 : Hid (mErr [(t, fms F), (t, minF es nn (fms F))] = 0 ∧ mT [(t, fms F), (t, minF es nn (fms F))] = t ∧ mF [(t, fms F), (t, minF es nn (fms F))] = fms F) := Lib.hid EP.1
  have E4 : Hid (mErr [(t, minF es nn (fms F)), (t, fms F)] = 0 ∧ mT [(t, minF es nn (fms F)), (t, fms F)] = t ∧ mF [(t, minF es nn (fms F)), (t, fms F)] = fms F) := Lib.hid EP.2
  have E5 : Hid (mErr [(t, fms F), (t, [])] = 0 ∧ mT [(t, fms F), (t, [])] = t ∧ mF [(t, fms F), (t, [])] = fms F) := Lib.hid (self_sub (b := (t, fms F)) (p := (t, [])) hCz rfl List.Pairwise.nil (fun _ h => (by cases h))).1
  clear hCz hsb EP h8
  have hmc := Lib.hid (bminus_calls t F (.slice A n cap) (.slice ua nn ucap) nn es w3 (HV.out.below K3.out) HF.out (HU.out w3 K3.out))
  go_wp2_with fail
  refine hmc.out.mono ?_; rintro e w4 ⟨⟨Ap, np, cp, Mp, rfl, kp4, hp4⟩, b4⟩
  have K := Lib.hid (trans9 K3.out b4)
  have Bb := Lib.hid (B3.out.below b4)
  have Rp := Lib.hid kp4.row
  have HMp := Lib.hid hp4
  clear b4 K3 B3 hmc kp4 hp4 x0 x1 xf xl
  go_upto_region 6 with fail
  obtain ⟨W5, hW5⟩ : ∃ W, W = w4.alloc (.cells #[.string (str t), .slice Ap np cp] 28) := ⟨_, rfl⟩
  have hb : Below w4.heap.size w4 W5 := by rw [hW5]; exact (Below.refl _ _).alloc (Nat.le_refl _) _
  replace K := Lib.hid (trans9 K.out hb)
  replace Bb := Lib.hid (Bb.out.below hb)
  replace Rp := Lib.hid (Rp.out.below hb)
  have Bp : Hid (BatAt W5 w4.heap.size t (.slice Ap np cp)) := Lib.hid (by rw [hW5]; exact BatAt.new w4 t _ _)
  rw [← hW5]
  clear hW5 hb
  generalize w4.heap.size = qp at *
  obtain ⟨b0, b1, _, bl⟩ := Bb.out
  obtain ⟨W6, hW6⟩ : ∃ X, X = W5.alloc (.cells #[.string (str t), .slice A n cap, .string (str t), .slice A n cap] 28) := ⟨_, rfl⟩
  have hb : Below W5.heap.size W5 W6 := by rw [hW6]; exact (Below.refl _ _).alloc (Nat.le_refl _) _
  have HBT : Hid (BtRow W6 (.slice (some ⟨W5.heap.size, 0, none⟩) 2 2) [⟨t, .slice A n cap, F⟩, ⟨t, .slice A n cap, F⟩]) := Lib.hid (by rw [hW6]; exact bt_two' _ ⟨t, .slice A n cap, F⟩ ⟨t, .slice A n cap, F⟩ ⟨HV.out.below K.out, HTL.out⟩ ⟨HV.out.below K.out, HTL.out⟩)
  replace K := Lib.hid (trans9 K.out hb)
  replace Bb := Lib.hid (Bb.out.below hb)
  replace Bp := Lib.hid (Bp.out.below hb)
  replace Rp := Lib.hid (Rp.out.below hb)
  have HM := Lib.hid (k_good [(t, fms F), (t, fms F)] [⟨t, .slice A n cap, F⟩, ⟨t, .slice A n cap, F⟩] _ W6 t (fms F) HBT.out (few_two' HFP.out HFP.out) rfl E1.out (HT.out W6 K.out))
  go_wp2_with fail
  rw [← hW6]
  clear hW6 hb
  refine HM.out.mono ?_; rintro e w6 ⟨⟨Ax, nx, cx, Mx, rfl, rwx, hmx⟩, b6⟩
  replace K := Lib.hid (trans9 K.out b6)
  replace Bb := Lib.hid (Bb.out.below b6)
  replace Bp := Lib.hid (Bp.out.below b6)
  replace Rp := Lib.hid (Rp.out.below b6)
  have Rx := Lib.hid rwx
  have HMx := Lib.hid hmx
  clear b6 rwx hmx HM HBT E1 b0 b1 bl
  go_upto_region 7 with fail
  obtain ⟨W7, hW7⟩ : ∃ X, X = w6.alloc (.cells #[.string (str t), .slice Ax nx cx] 28) := ⟨_, rfl⟩
  have hb : Below w6.heap.size w6 W7 := by rw [hW7]; exact (Below.refl _ _).alloc (Nat.le_refl _) _
  replace K := Lib.hid (trans9 K.out hb)
  replace Bb := Lib.hid (Bb.out.below hb)
  replace Bp := Lib.hid (Bp.out.below hb)
  replace Rp := Lib.hid (Rp.out.below hb)
  replace Rx := Lib.hid (Rx.out.below hb)
  have Bx : Hid (BatAt W7 w6.heap.size t (.slice Ax nx cx)) := Lib.hid (by rw [hW7]; exact BatAt.new w6 t _ _)
  rw [← hW7]
  clear hW7 hb
  generalize w6.heap.size = qx at *
  obtain ⟨b0, b1, _, bl⟩ := Bb.out
  obtain ⟨W8, hW8⟩ : ∃ X, X = W7.alloc (.cells #[.string (str t), .slice A n cap] 28) := ⟨_, rfl⟩
  have hb : Below W7.heap.size W7 W8 := by rw [hW8]; exact (Below.refl _ _).alloc (Nat.le_refl _) _
  have HBT : Hid (BtRow W8 (.slice (some ⟨W7.heap.size, 0, none⟩) 1 1) [⟨t, .slice A n cap, F⟩]) := Lib.hid (by rw [hW8]; exact bt_one' _ ⟨t, .slice A n cap, F⟩ ⟨HV.out.below K.out, HTL.out⟩)
  replace K := Lib.hid (trans9 K.out hb)
  replace Bb := Lib.hid (Bb.out.below hb)
  replace Bp := Lib.hid (Bp.out.below hb)
  replace Bx := Lib.hid (Bx.out.below hb)
  replace Rp := Lib.hid (Rp.out.below hb)
  replace Rx := Lib.hid (Rx.out.below hb)
  have HM := Lib.hid (k_good [(t, fms F)] [⟨t, .slice A n cap, F⟩] _ W8 t (fms F) HBT.out (few_one' HFP.out) rfl E2.out (HT.out W8 K.out))
  go_wp2_with fail
  rw [← hW8]
  clear hW8 hb
  refine HM.out.mono ?_; rintro e w8 ⟨⟨Ay, ny, cy, My, rfl, rwy, hmy⟩, b8⟩
  replace K := Lib.hid (trans9 K.out b8)
  replace Bb := Lib.hid (Bb.out.below b8)
  replace Bp := Lib.hid (Bp.out.below b8)
  replace Bx := Lib.hid (Bx.out.below b8)
  replace Rp := Lib.hid (Rp.out.below b8)
  replace Rx := Lib.hid (Rx.out.below b8)
  have Ry := Lib.hid rwy
  have HMy := Lib.hid hmy
  clear b8 rwy hmy HM HBT E2 b0 b1 bl
  go_upto_region 8 with fail
  obtain ⟨W9, hW9⟩ : ∃ X, X = w8.alloc (.cells #[.string (str t), .slice Ay ny cy] 28) := ⟨_, rfl⟩
  have hb : Below w8.heap.size w8 W9 := by rw [hW9]; exact (Below.refl _ _).alloc (Nat.le_refl _) _
  replace K := Lib.hid (trans9 K.out hb)
  replace Bb := Lib.hid (Bb.out.below hb)
  replace Bp := Lib.hid (Bp.out.below hb)
  replace Bx := Lib.hid (Bx.out.below hb)
  replace Rp := Lib.hid (Rp.out.below hb)
  replace Rx := Lib.hid (Rx.out.below hb)
  replace Ry := Lib.hid (Ry.out.below hb)
  have By : Hid (BatAt W9 w8.heap.size t (.slice Ay ny cy)) := Lib.hid (by rw [hW9]; exact BatAt.new w8 t _ _)
  rw [← hW9]
  clear hW9 hb
  generalize w8.heap.size = qy at *
  obtain ⟨b0, b1, _, bl⟩ := Bb.out
  obtain ⟨p0, p1, _, pl⟩ := Bp.out
  obtain ⟨W10, hW10⟩ : ∃ X, X = W9.alloc (.cells #[.string (str t), .slice A n cap, .string (str t), .slice Ap np cp] 28) := ⟨_, rfl⟩
  have hb : Below W9.heap.size W9 W10 := by rw [hW10]; exact (Below.refl _ _).alloc (Nat.le_refl _) _
  have HBT : Hid (BtRow W10 (.slice (some ⟨W9.heap.size, 0, none⟩) 2 2) [⟨t, .slice A n cap, F⟩, ⟨t, .slice Ap np cp, Mp⟩]) := Lib.hid (by rw [hW10]; exact bt_two' _ ⟨t, .slice A n cap, F⟩ ⟨t, .slice Ap np cp, Mp⟩ ⟨HV.out.below K.out, HTL.out⟩ ⟨Rp.out, HTL.out⟩)
  replace K := Lib.hid (trans9 K.out hb)
  replace Bb := Lib.hid (Bb.out.below hb)
  replace Bp := Lib.hid (Bp.out.below hb)
  replace Bx := Lib.hid (Bx.out.below hb)
  replace By := Lib.hid (By.out.below hb)
  replace Rp := Lib.hid (Rp.out.below hb)
  replace Rx := Lib.hid (Rx.out.below hb)
  replace Ry := Lib.hid (Ry.out.below hb)
  have HM := Lib.hid (k_good [(t, fms F), (t, minF es nn (fms F))] [⟨t, .slice A n cap, F⟩, ⟨t, .slice Ap np cp, Mp⟩] _ W10 t (fms F) HBT.out (few_two' HFP.out (by rw [HMp.out]; exact HPF.out)) (by simp only [bps, bp, List.map_cons, List.map_nil, HMp.out]) E3.out (HT.out W10 K.out))
  go_wp2_with fail
  rw [← hW10]
  clear hW10 hb
  refine HM.out.mono ?_; rintro e w10 ⟨⟨Az, nz, cz, Mz, rfl, rwz, hmz⟩, b10⟩
  replace K := Lib.hid (trans9 K.out b10)
  replace Bb := Lib.hid (Bb.out.below b10)
  replace Bp := Lib.hid (Bp.out.below b10)
  replace Bx := Lib.hid (Bx.out.below b10)
  replace By := Lib.hid (By.out.below b10)
  replace Rp := Lib.hid (Rp.out.below b10)
  replace Rx := Lib.hid (Rx.out.below b10)
  replace Ry := Lib.hid (Ry.out.below b10)
  have Rz := Lib.hid rwz
  have HMz := Lib.hid hmz
  clear b10 rwz hmz HM HBT E3 b0 b1 bl p0 p1 pl
  go_upto_region 9 with fail
  obtain ⟨W11, hW11⟩ : ∃ X, X = w10.alloc (.cells #[.string (str t), .slice Az nz cz] 28) := ⟨_, rfl⟩
  have hb : Below w10.heap.size w10 W11 := by rw [hW11]; exact (Below.refl _ _).alloc (Nat.le_refl _) _
  replace K := Lib.hid (trans9 K.out hb)
  replace Bb := Lib.hid (Bb.out.below hb)
  replace Bp := Lib.hid (Bp.out.below hb)
  replace Bx := Lib.hid (Bx.out.below hb)
  replace By := Lib.hid (By.out.below hb)
  replace Rp := Lib.hid (Rp.out.below hb)
  replace Rx := Lib.hid (Rx.out.below hb)
  replace Ry := Lib.hid (Ry.out.below hb)
  replace Rz := Lib.hid (Rz.out.below hb)
  have Bz : Hid (BatAt W11 w10.heap.size t (.slice Az nz cz)) := Lib.hid (by rw [hW11]; exact BatAt.new w10 t _ _)
  rw [← hW11]
  clear hW11 hb
  generalize w10.heap.size = qz at *
  obtain ⟨p0, p1, _, pl⟩ := Bp.out
  obtain ⟨b0, b1, _, bl⟩ := Bb.out
  obtain ⟨W12, hW12⟩ : ∃ X, X = W11.alloc (.cells #[.string (str t), .slice Ap np cp, .string (str t), .slice A n cap] 28) := ⟨_, rfl⟩
  have hb : Below W11.heap.size W11 W12 := by rw [hW12]; exact (Below.refl _ _).alloc (Nat.le_refl _) _
  have HBT : Hid (BtRow W12 (.slice (some ⟨W11.heap.size, 0, none⟩) 2 2) [⟨t, .slice Ap np cp, Mp⟩, ⟨t, .slice A n cap, F⟩]) := Lib.hid (by rw [hW12]; exact bt_two' _ ⟨t, .slice Ap np cp, Mp⟩ ⟨t, .slice A n cap, F⟩ ⟨Rp.out, HTL.out⟩ ⟨HV.out.below K.out, HTL.out⟩)
  replace K := Lib.hid (trans9 K.out hb)
  replace Bb := Lib.hid (Bb.out.below hb)
  replace Bp := Lib.hid (Bp.out.below hb)
  replace Bx := Lib.hid (Bx.out.below hb)
  replace By := Lib.hid (By.out.below hb)
  replace Bz := Lib.hid (Bz.out.below hb)
  replace Rp := Lib.hid (Rp.out.below hb)
  replace Rx := Lib.hid (Rx.out.below hb)
  replace Ry := Lib.hid (Ry.out.below hb)
  replace Rz := Lib.hid (Rz.out.below hb)
  have HM := Lib.hid (k_good [(t, minF es nn (fms F)), (t, fms F)] [⟨t, .slice Ap np cp, Mp⟩, ⟨t, .slice A n cap, F⟩] _ W12 t (fms F) HBT.out (few_two' (by rw [HMp.out]; exact HPF.out) HFP.out) (by simp only [bps, bp, List.map_cons, List.map_nil, HMp.out]) E4.out (HT.out W12 K.out))
  go_wp2_with fail
  rw [← hW12]
  clear hW12 hb
  refine HM.out.mono ?_; rintro e w12 ⟨⟨Aq, nq, cq, Mq, rfl, rwq, hmq⟩, b12⟩
  replace K := Lib.hid (trans9 K.out b12)
  replace Bb := Lib.hid (Bb.out.below b12)
  replace Bp := Lib.hid (Bp.out.below b12)
  replace Bx := Lib.hid (Bx.out.below b12)
  replace By := Lib.hid (By.out.below b12)
  replace Bz := Lib.hid (Bz.out.below b12)
  replace Rp := Lib.hid (Rp.out.below b12)
  replace Rx := Lib.hid (Rx.out.below b12)
  replace Ry := Lib.hid (Ry.out.below b12)
  replace Rz := Lib.hid (Rz.out.below b12)
  have Rq := Lib.hid rwq
  have HMq := Lib.hid hmq
  clear b12 rwq hmq HM HBT E4 p0 p1 pl b0 b1 bl
  go_upto_region 10 with fail
  obtain ⟨W13, hW13⟩ : ∃ X, X = w12.alloc (.cells #[.string (str t), .slice Aq nq cq] 28) := ⟨_, rfl⟩
  have hb : Below w12.heap.size w12 W13 := by rw [hW13]; exact (Below.refl _ _).alloc (Nat.le_refl _) _
  replace K := Lib.hid (trans9 K.out hb)
  replace Bb := Lib.hid (Bb.out.below hb)
  replace Bp := Lib.hid (Bp.out.below hb)
  replace Bx := Lib.hid (Bx.out.below hb)
  replace By := Lib.hid (By.out.below hb)
  replace Bz := Lib.hid (Bz.out.below hb)
  replace Rp := Lib.hid (Rp.out.below hb)
  replace Rx := Lib.hid (Rx.out.below hb)
  replace Ry := Lib.hid (Ry.out.below hb)
  replace Rz := Lib.hid (Rz.out.below hb)
  replace Rq := Lib.hid (Rq.out.below hb)
  have Bq : Hid (BatAt W13 w12.heap.size t (.slice Aq nq cq)) := Lib.hid (by rw [hW13]; exact BatAt.new w12 t _ _)
  rw [← hW13]
  clear hW13 hb
  generalize w12.heap.size = qq at *
  obtain ⟨b0, b1, _, bl⟩ := Bb.out
  obtain ⟨W14, hW14⟩ : ∃ X, X = W13.alloc (.cells #[.string (str t), .slice A n cap, .string (str t), .slice none 0 0] 28) := ⟨_, rfl⟩
  have hb : Below W13.heap.size W13 W14 := by rw [hW14]; exact (Below.refl _ _).alloc (Nat.le_refl _) _
  have HBT : Hid (BtRow W14 (.slice (some ⟨W13.heap.size, 0, none⟩) 2 2) [⟨t, .slice A n cap, F⟩, ⟨t, .slice none 0 0, []⟩]) := Lib.hid (by rw [hW14]; exact bt_two' _ ⟨t, .slice A n cap, F⟩ ⟨t, .slice none 0 0, []⟩ ⟨HV.out.below K.out, HTL.out⟩ ⟨FmRow.nil _, HTL.out⟩)
  replace K := Lib.hid (trans9 K.out hb)
  replace Bb := Lib.hid (Bb.out.below hb)
  replace Bp := Lib.hid (Bp.out.below hb)
  replace Bx := Lib.hid (Bx.out.below hb)
  replace By := Lib.hid (By.out.below hb)
  replace Bz := Lib.hid (Bz.out.below hb)
  replace Bq := Lib.hid (Bq.out.below hb)
  replace Rp := Lib.hid (Rp.out.below hb)
  replace Rx := Lib.hid (Rx.out.below hb)
  replace Ry := Lib.hid (Ry.out.below hb)
  replace Rz := Lib.hid (Rz.out.below hb)
  replace Rq := Lib.hid (Rq.out.below hb)
  have HM := Lib.hid (k_good [(t, fms F), (t, [])] [⟨t, .slice A n cap, F⟩, ⟨t, .slice none 0 0, []⟩] _ W14 t (fms F) HBT.out (few_two' HFP.out few_nil') rfl E5.out (HT.out W14 K.out))
  go_wp2_with fail
  rw [← hW14]
  clear hW14 hb
  refine HM.out.mono ?_; rintro e w14 ⟨⟨Ar, nr, cr, Mr, rfl, rwr, hmr⟩, b14⟩
  replace K := Lib.hid (trans9 K.out b14)
  replace Bb := Lib.hid (Bb.out.below b14)
  replace Bp := Lib.hid (Bp.out.below b14)
  replace Bx := Lib.hid (Bx.out.below b14)
  replace By := Lib.hid (By.out.below b14)
  replace Bz := Lib.hid (Bz.out.below b14)
  replace Bq := Lib.hid (Bq.out.below b14)
  replace Rp := Lib.hid (Rp.out.below b14)
  replace Rx := Lib.hid (Rx.out.below b14)
  replace Ry := Lib.hid (Ry.out.below b14)
  replace Rz := Lib.hid (Rz.out.below b14)
  replace Rq := Lib.hid (Rq.out.below b14)
  have Rr := Lib.hid rwr
  have HMr := Lib.hid hmr
  clear b14 rwr hmr HM HBT E5 b0 b1 bl
  go_upto_region 11 with fail
  obtain ⟨W15, hW15⟩ : ∃ X, X = w14.alloc (.cells #[.string (str t), .slice Ar nr cr] 28) := ⟨_, rfl⟩
  have hb : Below w14.heap.size w14 W15 := by rw [hW15]; exact (Below.refl _ _).alloc (Nat.le_refl _) _
  replace K := Lib.hid (trans9 K.out hb)
  replace Bb := Lib.hid (Bb.out.below hb)
  replace Bp := Lib.hid (Bp.out.below hb)
  replace Bx := Lib.hid (Bx.out.below hb)
  replace By := Lib.hid (By.out.below hb)
  replace Bz := Lib.hid (Bz.out.below hb)
  replace Bq := Lib.hid (Bq.out.below hb)
  replace Rp := Lib.hid (Rp.out.below hb)
  replace Rx := Lib.hid (Rx.out.below hb)
  replace Ry := Lib.hid (Ry.out.below hb)
  replace Rz := Lib.hid (Rz.out.below hb)
  replace Rq := Lib.hid (Rq.out.below hb)
  replace Rr := Lib.hid (Rr.out.below hb)
  have Br : Hid (BatAt W15 w14.heap.size t (.slice Ar nr cr)) := Lib.hid (by rw [hW15]; exact BatAt.new w14 t _ _)
  rw [← hW15]
  clear hW15 hb
  generalize w14.heap.size = qr at *
  obtain ⟨x0, x1, _, xl⟩ := Bx.out
  obtain ⟨b0, b1, _, bl⟩ := Bb.out
  have hs := Lib.hid (same_ok t Mx F (.slice Ax nx cx) (.slice A n cap) W15 Rx.out (HV.out.below K.out) (by rw [HMx.out]; exact HFP.out) HMx.out)
  go_wp2_with fail
  refine hs.out.mono ?_; rintro e w16 ⟨rfl, b16⟩
  clear x0 x1 xl b0 b1 bl hs
  replace K := Lib.hid (trans9 K.out b16)
  replace Bb := Lib.hid (Bb.out.below b16)
  replace Bp := Lib.hid (Bp.out.below b16)
  replace By := Lib.hid (By.out.below b16)
  replace Bz := Lib.hid (Bz.out.below b16)
  replace Bq := Lib.hid (Bq.out.below b16)
  replace Br := Lib.hid (Br.out.below b16)
  replace Rp := Lib.hid (Rp.out.below b16)
  replace Ry := Lib.hid (Ry.out.below b16)
  replace Rz := Lib.hid (Rz.out.below b16)
  replace Rq := Lib.hid (Rq.out.below b16)
  replace Rr := Lib.hid (Rr.out.below b16)
  clear b16 Bx Rx HMx
  obtain ⟨x0, x1, _, xl⟩ := By.out
  obtain ⟨b0, b1, _, bl⟩ := Bb.out
  have hs := Lib.hid (same_ok t My F (.slice Ay ny cy) (.slice A n cap) w16 Ry.out (HV.out.below K.out) (by rw [HMy.out]; exact HFP.out) HMy.out)
  go_wp2_with fail
  refine hs.out.mono ?_; rintro e w17 ⟨rfl, b17⟩
  clear x0 x1 xl b0 b1 bl hs
  replace K := Lib.hid (trans9 K.out b17)
  replace Bb := Lib.hid (Bb.out.below b17)
  replace Bp := Lib.hid (Bp.out.below b17)
  replace Bz := Lib.hid (Bz.out.below b17)
  replace Bq := Lib.hid (Bq.out.below b17)
  replace Br := Lib.hid (Br.out.below b17)
  replace Rp := Lib.hid (Rp.out.below b17)
  replace Rz := Lib.hid (Rz.out.below b17)
  replace Rq := Lib.hid (Rq.out.below b17)
  replace Rr := Lib.hid (Rr.out.below b17)
  clear b17 By Ry HMy
  obtain ⟨x0, x1, _, xl⟩ := Bz.out
  obtain ⟨b0, b1, _, bl⟩ := Bb.out
  have hs := Lib.hid (same_ok t Mz F (.slice Az nz cz) (.slice A n cap) w17 Rz.out (HV.out.below K.out) (by rw [HMz.out]; exact HFP.out) HMz.out)
  go_wp2_with fail
  refine hs.out.mono ?_; rintro e w18 ⟨rfl, b18⟩
  clear x0 x1 xl b0 b1 bl hs
  replace K := Lib.hid (trans9 K.out b18)
  replace Bb := Lib.hid (Bb.out.below b18)
  replace Bp := Lib.hid (Bp.out.below b18)
  replace Bq := Lib.hid (Bq.out.below b18)
  replace Br := Lib.hid (Br.out.below b18)
  replace Rp := Lib.hid (Rp.out.below b18)
  replace Rq := Lib.hid (Rq.out.below b18)
  replace Rr := Lib.hid (Rr.out.below b18)
  clear b18 Bz Rz HMz
  obtain ⟨x0, x1, _, xl⟩ := Bq.out
  obtain ⟨b0, b1, _, bl⟩ := Bb.out
  have hs := Lib.hid (same_ok t Mq F (.slice Aq nq cq) (.slice A n cap) w18 Rq.out (HV.out.below K.out) (by rw [HMq.out]; exact HFP.out) HMq.out)
  go_wp2_with fail
  refine hs.out.mono ?_; rintro e w19 ⟨rfl, b19⟩
  clear x0 x1 xl b0 b1 bl hs
  replace K := Lib.hid (trans9 K.out b19)
  replace Bb := Lib.hid (Bb.out.below b19)
  replace Bp := Lib.hid (Bp.out.below b19)
  replace Br := Lib.hid (Br.out.below b19)
  replace Rp := Lib.hid (Rp.out.below b19)
  replace Rr := Lib.hid (Rr.out.below b19)
  clear b19 Bq Rq HMq
  obtain ⟨x0, x1, _, xl⟩ := Br.out
  obtain ⟨b0, b1, _, bl⟩ := Bb.out
  have hs := Lib.hid (same_ok t Mr F (.slice Ar nr cr) (.slice A n cap) w19 Rr.out (HV.out.below K.out) (by rw [HMr.out]; exact HFP.out) HMr.out)
  go_wp2_with fail
  refine hs.out.mono ?_; rintro e w20 ⟨rfl, b20⟩
  clear x0 x1 xl b0 b1 bl hs
  replace K := Lib.hid (trans9 K.out b20)
  replace Bb := Lib.hid (Bb.out.below b20)
  replace Bp := Lib.hid (Bp.out.below b20)
  replace Rp := Lib.hid (Rp.out.below b20)
  clear b20 Br Rr HMr
  go_wp2
  go_ret
  exact ⟨rfl, K.out⟩

end Go.Proofs.YtjeefgamkoeiaaaGreatDoor
