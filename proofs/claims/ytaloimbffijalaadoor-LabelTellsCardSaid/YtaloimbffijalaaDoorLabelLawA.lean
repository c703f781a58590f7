/- The walk of the law LabelTells. -/
import Derived.Test.YtaloimbffijalaaDoorLabelK2
import Derived.Test.YtaloimbffijalaaDoorRefLabelC
import Derived.Test.YtaloimbffijalaaDoorRefLabelD
import Derived.Test.YtaloimbffijalaaDoorRefLabelE
set_option maxRecDepth 100000
set_option linter.unusedVariables false
set_option linter.unusedSimpArgs false
namespace Go.Proofs.YtaloimbffijalaaDoor
open Go.RowKit Go.Sort
attribute [local go_sem ↓] Go.wp_at_zero Go.wp_at_succ

theorem rsame_eq (a : List Lb) (v u : Value) (w : World) (hv : LbRow w v a) (hu : LbRow w u a) :
    Calls Tryd.prog 13 #[v, u] w fun e w' => e = .returned (.bool true) ∧ Below w.heap.size w w' :=
  (rsame_calls a a v u w hv hu).mono fun _ _ ⟨h, hb⟩ => ⟨by rw [h, cmpL_refl]; rfl, hb⟩
theorem fit_srt {l : List Lb} (h : Fit l) : Fit ((srt l).getD []) := by
  intro x hx
  by_cases n : Nd l
  · obtain ⟨d, e, p, _⟩ := srt_yes n
    rw [e] at hx
    exact h x (p.mem_iff.1 hx)
  · rw [srt_no n] at hx; cases hx
theorem StrRow.below9 {w W : World} {u : Value} {n : Nat} {es : Nat → ByteArray} (hu : StrRow w u n es) (hW : Below w.heap.size w W) : StrRow W u n es := by
  obtain ⟨a, c, e, h1, h2, h3⟩ := hu
  refine ⟨a, c, e, h1, h2, fun h => ?_⟩
  obtain ⟨b, off, e2, hb, hc⟩ := h3 h
  exact ⟨b, off, e2, Nat.lt_of_lt_of_le hb hW.size, fun i hi => ⟨(hW.cell (p := ⟨b, off + i, none⟩) hb).trans (hc i hi).1, (hc i hi).2⟩⟩
set_option maxHeartbeats 8000000 in
theorem tells_str (a b : List Lb) (va vb vn : Value) (s : List UInt8) (n : Nat) (es : Nat → ByteArray) (w : World) (ha : LbRow w va a) (fa : Fit a) (hb : LbRow w vb b) (fb : Fit b) (hs : s.length ≤ maxLen) (hn : StrRow w vn n es) (hT : ShapesIn w) :
    Calls Tryd.prog 3 #[va, vb, .string (str s), vn] w fun e w' => e = .returned (.bool true) ∧ Below w.heap.size w w' := by
  have HT := Lib.hid (fun W (hW : Below w.heap.size w W) => hT.below hW hT.room)
  have HA := Lib.hid (fun W (hW : Below w.heap.size w W) => ha.below hW)
  have HB := Lib.hid (fun W (hW : Below w.heap.size w W) => hb.below hW)
  have HN := Lib.hid (fun W (hW : Below w.heap.size w W) => hn.below9 hW)
  have FA := Lib.hid fa
  have hz := str_size s
  have HS := Lib.hid hs
  have hk := Lib.hid (known_calls w hT)
  obtain ⟨An, capn, rfl, _, hcn, _⟩ := hn
  unfold maxLen at hs hcn
  clear hT ha hb fa fb
  go_enter Tryd.func3, Tryd.ntmps3
  go_wp2_with fail
  refine hk.out.mono ?_; rintro e w1 ⟨rfl, b1⟩
  have B1 := Lib.hid b1
  clear b1 hk
  go_wp2_with fail
  refine (short_calls a va w1 (HA.out _ B1.out)).mono ?_; rintro e w2 ⟨hsh, rfl⟩
  rcases hsh.ways with rfl | ⟨rfl, ha20⟩
  · clear hsh
    go_wp2
    go_ret
    exact ⟨rfl, B1.out⟩
  clear hsh
  go_wp2_with fail
  refine (short_calls b vb w1 (HB.out _ B1.out)).mono ?_; rintro e w2 ⟨hsh, rfl⟩
  rcases hsh.ways with rfl | ⟨rfl, hb20⟩
  · clear hsh
    go_wp2
    go_ret
    exact ⟨rfl, B1.out⟩
  clear hsh
  by_cases hn10 : (10 : Int) < (n : Int)
  · have d1 : decide ((10 : Int) < (n : Int)) = true := decide_eq_true hn10
    have d1' : decide (10 < n) = true := by simp; omega
    go_wp2
    go_ret
    exact ⟨rfl, B1.out⟩
  have d1 : decide ((10 : Int) < (n : Int)) = false := decide_eq_false hn10
  have d1' : decide (10 < n) = false := by simp; omega
  by_cases hs200 : (200 : Int) < (s.length : Int)
  · have d2 : decide ((200 : Int) < (s.length : Int)) = true := decide_eq_true hs200
    have d2' : decide (200 < s.length) = true := by simp; omega
    go_wp2
    go_ret
    exact ⟨rfl, B1.out⟩
  have d2 : decide ((200 : Int) < (s.length : Int)) = false := decide_eq_false hs200
  have d2' : decide (200 < s.length) = false := by simp; omega
  have FD := Lib.hid (fit_srt FA.out)
  have hso := Lib.hid (fun W v (h : LbRow W v a) => sort_calls a v W h (by omega))
  have hrs := Lib.hid (fun W v (h : LbRow W v a) => rsort_calls a v W h (by omega))
  have hge := Lib.hid (fun W v (h : LbRow W v a) => get_calls a v s W h)
  have hrg := Lib.hid (fun W v (h : LbRow W v a) => rget_calls a v s W h)
  have hwo := Lib.hid (fun W v u (h : LbRow W v a) (k : StrRow W u n es) => without_calls a n es v u W h k (by omega))
  have hrw := Lib.hid (fun W v u (h : LbRow W v a) (k : StrRow W u n es) => rwithout_calls a n es v u W h k (by omega))
  have hco := Lib.hid (fun W v u (h : LbRow W v a) (k : LbRow W u b) => compare_calls a b v u W h k)
  have hrc := Lib.hid (fun W v u (h : LbRow W v a) (k : LbRow W u b) => rcompare_calls a b v u W h k)
  have hgo := Lib.hid (fun W v (h : LbRow W v a) (k : ShapesIn W) => good_calls a v W h FA.out k)
  have hrl := Lib.hid (fun W v (h : LbRow W v a) => rlabels_calls a v W h FA.out)
  have hgd := Lib.hid (fun W v (h : LbRow W v ((srt a).getD [])) (k : ShapesIn W) => good_calls _ v W h FD.out k)
  have hrd := Lib.hid (fun W v (h : LbRow W v ((srt a).getD [])) => rlabels_calls _ v W h FD.out)
  have hna := Lib.hid (fun W (k : ShapesIn W) => name_calls s W HS.out k)
  have hrn := Lib.hid (fun W => rname_calls s W HS.out)
  have hva := Lib.hid (fun W (k : ShapesIn W) => value_calls s W HS.out k)
  have hrv := Lib.hid (fun W => rvalue_calls s W HS.out)
  generalize (srt a).isSome = q at *
  generalize (srt a).getD [] = d at *
  generalize getL a s = g at *
  obtain ⟨g1, g2⟩ := g
  generalize outL (inN es n) a = o at *
  generalize cmpL a b = C at *
  generalize goodL a = G at *
  generalize goodL d = G2 at *
  generalize nameOk s = N1 at *
  generalize valueOk s = V1 at *
  clear ha20 hb20
  go_wp2_with fail
  refine (hso.out _ _ (HA.out _ B1.out)).mono ?_; rintro e w2 ⟨x1, rfl, b2, r2⟩
  have B2 := Lib.hid (trans9 B1.out b2)
  have R2 := Lib.hid r2
  clear b2 r2
  go_wp2_with fail
  refine (hrs.out _ _ (HA.out _ B2.out)).mono ?_; rintro e w3 ⟨x2, rfl, b3, r3⟩
  have B3 := Lib.hid (trans9 B2.out b3)
  have R3 := Lib.hid (R2.out.below b3)
  have Q3 := Lib.hid r3
  clear b3 r3
  go_wp2_with fail
  refine (hge.out _ _ (HA.out _ B3.out)).mono ?_; rintro e w4 ⟨rfl, b4⟩
  have B4 := Lib.hid (trans9 B3.out b4)
  have R4 := Lib.hid (R3.out.below b4)
  have Q4 := Lib.hid (Q3.out.below b4)
  clear b4
  go_wp2_with fail
  refine (hrg.out _ _ (HA.out _ B4.out)).mono ?_; rintro e w5 ⟨rfl, rfl⟩
  go_wp2_with fail
  refine (rsame_eq d _ _ _ R4.out Q4.out).mono ?_; rintro e w5 ⟨rfl, b5⟩
  have B5 := Lib.hid (trans9 B4.out b5)
  have R5 := Lib.hid (R4.out.below b5)
  have Q5 := Lib.hid (Q4.out.below b5)
  clear b5
  go_wp2_with fail
  refine (hwo.out _ _ _ (HA.out _ B5.out) (HN.out _ B5.out)).mono ?_; rintro e w6 ⟨x3, rfl, b6, r6⟩
  have B6 := Lib.hid (trans9 B5.out b6)
  have R6 := Lib.hid (R5.out.below b6)
  have Q6 := Lib.hid (Q5.out.below b6)
  have O6 := Lib.hid (LbOwn.row r6)
  clear b6 r6
  go_wp2_with fail
  refine (hrw.out _ _ _ (HA.out _ B6.out) (HN.out _ B6.out)).mono ?_; rintro e w7 ⟨x4, rfl, b7, r7⟩
  have B7 := Lib.hid (trans9 B6.out b7)
  have R7 := Lib.hid (R6.out.below b7)
  have Q7 := Lib.hid (Q6.out.below b7)
  have O7 := Lib.hid (O6.out.below b7)
  have P7 := Lib.hid (LbOwn.row r7)
  clear b7 r7
  go_wp2_with fail
  refine (rsame_eq o _ _ _ O7.out P7.out).mono ?_; rintro e w8 ⟨rfl, b8⟩
  have B8 := Lib.hid (trans9 B7.out b8)
  have R8 := Lib.hid (R7.out.below b8)
  have Q8 := Lib.hid (Q7.out.below b8)
  clear b8
  go_wp2_with fail
  refine (hco.out _ _ _ (HA.out _ B8.out) (HB.out _ B8.out)).mono ?_; rintro e w9 ⟨rfl, b9⟩
  have B9 := Lib.hid (trans9 B8.out b9)
  have R9 := Lib.hid (R8.out.below b9)
  have Q9 := Lib.hid (Q8.out.below b9)
  clear b9
  go_wp2_with fail
  refine (hrc.out _ _ _ (HA.out _ B9.out) (HB.out _ B9.out)).mono ?_; rintro e w10 ⟨rfl, b10⟩
  have B10 := Lib.hid (trans9 B9.out b10)
  have R10 := Lib.hid (R9.out.below b10)
  have Q10 := Lib.hid (Q9.out.below b10)
  clear b10
  go_wp2_with fail
  refine (hgo.out _ _ (HA.out _ B10.out) (HT.out _ B10.out)).mono ?_; rintro e w11 ⟨rfl, b11⟩
  have B11 := Lib.hid (trans9 B10.out b11)
  have R11 := Lib.hid (R10.out.below b11)
  have Q11 := Lib.hid (Q10.out.below b11)
  clear b11
  go_wp2_with fail
  refine (hrl.out _ _ (HA.out _ B11.out)).mono ?_; rintro e w12 ⟨rfl, b12⟩
  have B12 := Lib.hid (trans9 B11.out b12)
  have R12 := Lib.hid (R11.out.below b12)
  have Q12 := Lib.hid (Q11.out.below b12)
  clear b12
  go_wp2_with fail
  refine (hgd.out _ _ R12.out (HT.out _ B12.out)).mono ?_; rintro e w13 ⟨rfl, b13⟩
  have B13 := Lib.hid (trans9 B12.out b13)
  have Q13 := Lib.hid (Q12.out.below b13)
  clear b13
  go_wp2_with fail
  refine (hrd.out _ _ Q13.out).mono ?_; rintro e w14 ⟨rfl, b14⟩
  have B14 := Lib.hid (trans9 B13.out b14)
  clear b14
  go_wp2_with fail
  refine (hna.out _ (HT.out _ B14.out)).mono ?_; rintro e w15 ⟨rfl, b15⟩
  have B15 := Lib.hid (trans9 B14.out b15)
  clear b15
  go_wp2_with fail
  refine (hrn.out _).mono ?_; rintro e w16 ⟨rfl, rfl⟩
  go_wp2_with fail
  refine (hva.out _ (HT.out _ B15.out)).mono ?_; rintro e w16 ⟨rfl, b16⟩
  have B16 := Lib.hid (trans9 B15.out b16)
  clear b16
  go_wp2_with fail
  refine (hrv.out _).mono ?_; rintro e w17 ⟨rfl, rfl⟩
  go_wp2
  go_ret
  exact ⟨rfl, B16.out⟩
theorem tells_walk (a b : List Lb) (va vb vn : Value) (s : ByteArray) (n : Nat) (es : Nat → ByteArray) (w : World) (ha : LbRow w va a) (fa : Fit a) (hb : LbRow w vb b) (fb : Fit b) (hs : s.size ≤ maxLen) (hn : StrRow w vn n es) (hT : ShapesIn w) :
    Calls Tryd.prog 3 #[va, vb, .string s, vn] w fun e w' => e = .returned (.bool true) ∧ Below w.heap.size w w' :=
  tells_str a b va vb vn s.data.toList n es w ha fa hb fb hs hn hT

end Go.Proofs.YtaloimbffijalaaDoor
