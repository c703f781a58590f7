/- What the laws of layer 16 ask of class's functions (ClsC); the laws' one, known. -/
import Derived.Test.YtgoibhbmndpgpaaGreatDoorClsPlain
import Derived.Test.YtgoibhbmndpgpaaGreatDoorPointW
import Derived.Test.YtgoibhbmndpgpaaGreatDoorBatX
import Derived.Test.YtgoibhbmndpgpaaGreatDoorMrgWXY
set_option maxRecDepth 100000
set_option linter.unusedVariables false
set_option linter.unusedSimpArgs false
namespace Go.Proofs.YtgoibhbmndpgpaaGreatDoor
open Go.RowKit Go.Sort Dc
attribute [local go_sem ↓] Go.wp_at_zero Go.wp_at_succ

/-- class's functions answer as the plain words say, from w on -/
structure ClsC (w : World) : Prop where
  why : ∀ (p : Int) (t : List UInt8) (F : List Fs) (v : Value) (X : World), Below w.heap.size w X → FmRow X v F → FmFew F → t.length ≤ maxLen → Calls Tryz.prog 7 #[.int .i64 p, batv t v] X fun e w' => e = .returned (.tuple #[.string (str (Kl.why p t (fms F)).1), .bool (Kl.why p t (fms F)).2]) ∧ Below X.heap.size X w'
  is : ∀ (p : Int) (t : List UInt8) (F : List Fs) (v : Value) (X : World), Below w.heap.size w X → FmRow X v F → FmFew F → t.length ≤ maxLen → Calls Tryz.prog 11 #[.int .i64 p, batv t v] X fun e w' => e = .returned (.bool (Kl.why p t (fms F)).2) ∧ Below X.heap.size X w'
  kinds : ∀ (p : Int) (X : World), Below w.heap.size w X → Calls Tryz.prog 9 #[.int .i64 p] X fun e w' => (∃ v, e = .returned v ∧ NoRow w' v (Kl.kinds p)) ∧ Below X.heap.size X w'
  val : ∀ (p : Int) (l : List UInt8) (X : World), Below w.heap.size w X → l.length ≤ maxLen → Calls Tryz.prog 13 #[.int .i64 p, .string (str l)] X fun e w' => e = .returned (.bool (Kl.val p l)) ∧ Below X.heap.size X w'

theorem ClsC.below {w w' : World} (h : ClsC w) (hb : Below w.heap.size w w') : ClsC w' :=
  ⟨fun p t F v X hX => h.why p t F v X (trans9 hb hX), fun p t F v X hX => h.is p t F v X (trans9 hb hX), fun p X hX => h.kinds p X (trans9 hb hX), fun p l X hX => h.val p l X (trans9 hb hX)⟩
def oHd (k : Int) : Hd := ⟨[97], k, [], []⟩
/-- a batch of one family, one point -/
def oB (k : Int) (q : Pt) : List Fp := [(oHd k, [q])]
theorem oHd_in {k : Int} (h : -9223372036854775808 ≤ k ∧ k ≤ 9223372036854775807) : HdIn (oHd k) :=
  ⟨by show [97].length ≤ maxLen; unfold maxLen; simp, by show [].length ≤ maxLen; unfold maxLen; simp, by show [].length ≤ maxLen; unfold maxLen; simp, h.1, h.2⟩
theorem one16_few {F : List Fs} {k : Int} {q : Pt} (h : fms F = oB k q) (hq : q.l.length ≤ 12) : FmFew F := FpFew.rows (by
  rw [h]
  unfold oB
  exact ⟨by simp, fun x hx => by rw [List.mem_singleton.1 hx]; simp, fun x hx y hy => by rw [List.mem_singleton.1 hx] at hy; rw [List.mem_singleton.1 hy]; omega⟩)
theorem one16_row (k : Int) (y : Ps) (w : World) (o1 o2 : Obj) (hk : -9223372036854775808 ≤ k ∧ k ≤ 9223372036854775807) (hy : PsIn w y) :
    FmRow ((((w.alloc o1).alloc o2).alloc (.cells (ptc y.1 y.2) 46)).alloc (.cells (famc (oHd k) (.slice (some ⟨w.heap.size + 2, 0, none⟩) 1 1)) 39)) (.slice (some ⟨w.heap.size + 3, 0, none⟩) 1 1) [⟨oHd k, .slice (some ⟨w.heap.size + 2, 0, none⟩) 1 1, [y]⟩] := by
  have hz1 : ((w.alloc o1).alloc o2).heap.size = w.heap.size + 2 := by simp
  have b2 : Below w.heap.size w ((w.alloc o1).alloc o2) := kp_alloc (kp_alloc (Below.refl _ _) _) _
  have hp : PtRow (((w.alloc o1).alloc o2).alloc (.cells (ptc y.1 y.2) 46)) (.slice (some ⟨w.heap.size + 2, 0, none⟩) 1 1) [y] := by
    have h := new_pt ((w.alloc o1).alloc o2) y.1 y.2
    rw [hz1] at h
    exact ⟨h, fun x hx => by rw [List.mem_singleton.1 hx]; exact ⟨hy.1.below (kp_alloc b2 _), hy.2⟩⟩
  have h := (new_fs (((w.alloc o1).alloc o2).alloc (.cells (ptc y.1 y.2) 46)) ⟨oHd k, .slice (some ⟨w.heap.size + 2, 0, none⟩) 1 1, [y]⟩).row
  rw [show (((w.alloc o1).alloc o2).alloc (.cells (ptc y.1 y.2) 46)).heap.size = w.heap.size + 3 by simp] at h
  exact ⟨h, fun x hx => by rw [List.mem_singleton.1 hx]; exact ⟨hp.below ((Below.refl _ _).alloc (Nat.le_refl _) _), oHd_in hk⟩⟩
set_option maxHeartbeats 4000000 in
theorem one16_calls (k : Int) (y : Ps) (w : World) (hk : -9223372036854775808 ≤ k ∧ k ≤ 9223372036854775807) (hy : PsIn w y) :
    Calls Tryz.prog 16 #[.int .i64 k, ptv y.1 y.2] w fun e w' => (∃ A n cap F, e = .returned (batv [116] (.slice A n cap)) ∧ FmRow w' (.slice A n cap) F ∧ fms F = oB k y.2) ∧ Below w.heap.size w w' := by
  have HR := Lib.hid (fun o1 o2 => one16_row k y w o1 o2 hk hy)
  obtain ⟨A2, n2, cap2, hy1⟩ : ∃ A1 n1 cap1, y.1 = .slice A1 n1 cap1 := by obtain ⟨_, _, h, _⟩ := hy.1; exact ⟨_, _, _, h⟩
  obtain ⟨yv, yp⟩ := y
  simp only at hy1
  subst hy1
  clear hk hy
  go_enter Tryz.func16, Tryz.ntmps16
  go_wp2
  refine bodyPost_ret (v := .agg #[.string ⟨#[116]⟩, .slice (some ⟨w.heap.size + 3, 0, none⟩) 1 1]) (by simp [results, Tryz.results16, go_sem]) rfl ⟨by first | exact ⟨_, _, _, [⟨oHd k, .slice (some ⟨w.heap.size + 2, 0, none⟩) 1 1, [(.slice A2 n2 cap2, yp)]⟩], rfl, HR.out _ _, rfl⟩ | exact ⟨_, _, _, rfl, [⟨oHd k, .slice (some ⟨w.heap.size + 2, 0, none⟩) 1 1, [(.slice A2 n2 cap2, yp)]⟩], HR.out _ _, rfl⟩, ?_⟩
  exact kp_alloc (kp_alloc (kp_alloc (kp_alloc (Below.refl _ _) _) _) _) _

/-- the points that the laws' known asks about -/
def kp (r : Int) (b : Bool) (t : Int) : Ps := (.slice none 0 0, ⟨[], r, false, 0, 0, 0, 0, b, t⟩)
theorem kp_in (w : World) {r t : Int} {b : Bool} (h : 0 ≤ t ∧ t ≤ 2000) : PsIn w (kp r b t) :=
  ⟨⟨none, 0, rfl, Nat.le_refl _, by unfold maxLen; omega, fun _ => rfl, fun h => absurd h (by simp [kp])⟩, ⟨by show (-9223372036854775808 : Int) ≤ 0; decide, by show (0 : Int) ≤ 9223372036854775807; decide, by show (-9223372036854775808 : Int) ≤ 0; decide, by show (0 : Int) ≤ 9223372036854775807; decide, by show (-9223372036854775808 : Int) ≤ t; omega, by show t ≤ (9223372036854775807 : Int); omega, fun x hx => by cases hx⟩⟩
theorem kn_facts : Kl.why 2 [116] (oB 3 (kp 3 false 0).2) = ([97], false) ∧ Kl.why 9 [116] (oB 3 (kp 3 false 0).2) = ([], false) ∧ Kl.why 1 [116] (oB 3 (kp 3 false 0).2) = ([], true) ∧
    (Kl.why 2 [116] (oB 1 (kp 0 false 0).2)).2 = true ∧ (Kl.why 3 [116] (oB 0 (kp 0 true 2000).2)).2 = true ∧ (Kl.why 3 [116] (oB 0 (kp 0 false 0).2)).2 = false ∧ (Kl.why 4 [116] (oB 2 (kp 0 false 0).2)).2 = true ∧
    Kl.val 1 [] = true ∧ Kl.val 2 [] = false := by decide +kernel

set_option maxHeartbeats 16000000 in
theorem known16_calls (w : World) (hC : ClsC w) : Calls Tryz.prog 5 #[] w fun e w' => e = .returned (.bool true) ∧ Below w.heap.size w w' := by
  obtain ⟨f1, f2, f3, f4, f5, f6, f7, f8, f9⟩ := kn_facts
  have HC := Lib.hid hC
  have F1 := Lib.hid f1
  have F2 := Lib.hid f2
  have F3 := Lib.hid f3
  have F4 := Lib.hid f4
  have F5 := Lib.hid f5
  have F6 := Lib.hid f6
  have F7 := Lib.hid f7
  have F8 := Lib.hid f8
  have F9 := Lib.hid f9
  have b0 := Lib.hid (Below.refl w.heap.size w)
  have ht : ([116] : List UInt8).length ≤ maxLen := by unfold maxLen; simp
  have HT := Lib.hid ht
  have hl0 : ([] : List UInt8).length ≤ maxLen := by unfold maxLen; simp
  have HL0 := Lib.hid hl0
  clear hC f1 f2 f3 f4 f5 f6 f7 f8 f9 ht hl0
  go_enter Tryz.func5, Tryz.ntmps5
  go_wp2_with fail
  refine (one16_calls 3 (kp 3 false 0) _ (by decide) (kp_in _ (by decide))).mono ?_; rintro e w1 ⟨⟨A1, n1, c1, F, rfl, row1, hf1⟩, b1⟩
  go_upto_region 2 with fail
  have ka := kp_alloc (Below.refl w1.heap.size w1) (.cells #[.string (str [116]), .slice A1 n1 c1] 24)
  have X2 := Lib.hid (BatAt.new w1 [116] (.slice A1 n1 c1) 24)
  have K2 := Lib.hid (trans9 b0.out (trans9 b1 ka))
  have R2 := Lib.hid (row1.below ka)
  have HW := Lib.hid (one16_few hf1 (by show (0 : Nat) ≤ 12; omega))
  have HF := Lib.hid hf1
  generalize w1.alloc (.cells #[.string (str [116]), .slice A1 n1 c1] 24) = w2 at *
  generalize w1.heap.size = z at *
  clear row1 hf1 b1 ka b0
  have c1 := Lib.hid (fun X (h : Below w2.heap.size w2 X) => by
    have := HC.out.why 2 [116] F _ X (trans9 K2.out h) (R2.out.below h) HW.out HT.out
    rwa [HF.out, F1.out] at this)
  have c2 := Lib.hid (fun X (h : Below w2.heap.size w2 X) => by
    have := HC.out.why 9 [116] F _ X (trans9 K2.out h) (R2.out.below h) HW.out HT.out
    rwa [HF.out, F2.out] at this)
  have c3 := Lib.hid (fun X (h : Below w2.heap.size w2 X) => by
    have := HC.out.is 1 [116] F _ X (trans9 K2.out h) (R2.out.below h) HW.out HT.out
    rwa [HF.out, F3.out] at this)
  have c4 := Lib.hid (fun X (h : Below w2.heap.size w2 X) => by
    have := HC.out.is 2 [116] F _ X (trans9 K2.out h) (R2.out.below h) HW.out HT.out
    rwa [HF.out, F1.out] at this)
  clear R2 HW HF F1 F2 F3
  obtain ⟨x0, x1, xf, xl⟩ := X2.out
  go_wp2_with fail
  refine (c1.out _ (Below.refl _ _)).mono ?_; rintro e w3 ⟨rfl, b3⟩
  have B3 := Lib.hid b3
  clear b3 x0 x1 xf xl
  obtain ⟨x0, x1, xf, xl⟩ := X2.out.below B3.out
  go_wp2_with fail
  refine (c2.out _ B3.out).mono ?_; rintro e w4 ⟨rfl, b4⟩
  have B4 := Lib.hid (trans9 B3.out b4)
  clear b4 x0 x1 xf xl B3
  obtain ⟨x0, x1, xf, xl⟩ := X2.out.below B4.out
  go_wp2_with fail
  refine (c3.out _ B4.out).mono ?_; rintro e w5 ⟨rfl, b5⟩
  have B5 := Lib.hid (trans9 B4.out b5)
  clear b5 x0 x1 xf xl B4
  obtain ⟨x0, x1, xf, xl⟩ := X2.out.below B5.out
  go_wp2_with fail
  refine (c4.out _ B5.out).mono ?_; rintro e w6 ⟨rfl, b6⟩
  have K6 := Lib.hid (trans9 K2.out (trans9 B5.out b6))
  clear b6 x0 x1 xf xl B5 c1 c2 c3 c4 K2 X2
  go_wp2_with fail
  refine (one16_calls 1 (kp 0 false 0) _ (by decide) (kp_in _ (by decide))).mono ?_; rintro e w7 ⟨⟨A7, n7, c7, F', rfl, row7, hf7⟩, b7⟩
  have K7 := Lib.hid (trans9 K6.out b7)
  have c8 := HC.out.is 2 [116] F' _ w7 K7.out row7 (one16_few hf7 (by show (0 : Nat) ≤ 12; omega)) HT.out
  rw [hf7, F4.out] at c8
  have C8 := Lib.hid c8
  clear b7 row7 hf7 K6 c8
  go_wp2_with fail
  refine C8.out.mono ?_; rintro e w8 ⟨rfl, b8⟩
  have K8 := Lib.hid (trans9 K7.out b8)
  clear b8 C8 K7
  go_wp2_with fail
  refine (one16_calls 0 (kp 0 true 2000) _ (by decide) (kp_in _ (by decide))).mono ?_; rintro e w9 ⟨⟨A9, n9, c9, F9', rfl, row9, hf9⟩, b9⟩
  have K9 := Lib.hid (trans9 K8.out b9)
  have c10 := HC.out.is 3 [116] F9' _ w9 K9.out row9 (one16_few hf9 (by show (0 : Nat) ≤ 12; omega)) HT.out
  rw [hf9, F5.out] at c10
  have C10 := Lib.hid c10
  clear b9 row9 hf9 K8 c10
  go_wp2_with fail
  refine C10.out.mono ?_; rintro e w10 ⟨rfl, b10⟩
  have K10 := Lib.hid (trans9 K9.out b10)
  clear b10 C10 K9
  go_wp2_with fail
  refine (one16_calls 0 (kp 0 false 0) _ (by decide) (kp_in _ (by decide))).mono ?_; rintro e w11 ⟨⟨A11, n11, c11, F11, rfl, row11, hf11⟩, b11⟩
  have K11 := Lib.hid (trans9 K10.out b11)
  have c12 := HC.out.is 3 [116] F11 _ w11 K11.out row11 (one16_few hf11 (by show (0 : Nat) ≤ 12; omega)) HT.out
  rw [hf11, F6.out] at c12
  have C12 := Lib.hid c12
  clear b11 row11 hf11 K10 c12
  go_wp2_with fail
  refine C12.out.mono ?_; rintro e w12 ⟨rfl, b12⟩
  have K12 := Lib.hid (trans9 K11.out b12)
  clear b12 C12 K11
  go_wp2_with fail
  refine (one16_calls 2 (kp 0 false 0) _ (by decide) (kp_in _ (by decide))).mono ?_; rintro e w13 ⟨⟨A13, n13, c13, F13, rfl, row13, hf13⟩, b13⟩
  have K13 := Lib.hid (trans9 K12.out b13)
  have c14 := HC.out.is 4 [116] F13 _ w13 K13.out row13 (one16_few hf13 (by show (0 : Nat) ≤ 12; omega)) HT.out
  rw [hf13, F7.out] at c14
  have C14 := Lib.hid c14
  clear b13 row13 hf13 K12 c14
  go_wp2_with fail
  refine C14.out.mono ?_; rintro e w14 ⟨rfl, b14⟩
  have K14 := Lib.hid (trans9 K13.out b14)
  clear b14 C14 K13
  have C15 := Lib.hid (HC.out.kinds 4 w14 K14.out)
  go_wp2_with fail
  refine C15.out.mono ?_; rintro e w15 ⟨⟨v15, rfl, A15, cap15, rfl, _⟩, b15⟩
  have hk2 : (Kl.kinds 4).length = 2 := by decide
  rw [hk2]
  have K15 := Lib.hid (trans9 K14.out b15)
  clear b15 C15 K14
  have c16 := HC.out.val 1 [] w15 K15.out HL0.out
  rw [F8.out] at c16
  have C16 := Lib.hid c16
  clear c16
  go_wp2_with fail
  refine C16.out.mono ?_; rintro e w16 ⟨rfl, b16⟩
  have K16 := Lib.hid (trans9 K15.out b16)
  have c17 := HC.out.val 2 [] w16 K16.out HL0.out
  rw [F9.out] at c17
  have C17 := Lib.hid c17
  clear c17 b16 C16 K15
  go_wp2_with fail
  refine C17.out.mono ?_; rintro e w17 ⟨rfl, b17⟩
  have K17 := Lib.hid (trans9 K16.out b17)
  clear b17 C17 K16
  go_wp2_with fail
  go_ret
  exact ⟨rfl, K17.out⟩

end Go.Proofs.YtgoibhbmndpgpaaGreatDoor
