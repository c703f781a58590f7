/- The walks of the laws' own 'known' and 'short'. -/
import Derived.Test.YtefgedflinoojaaDoorPointD
import Derived.Test.YtefgedflinoojaaDoorPtTabs
set_option maxRecDepth 100000
set_option linter.unusedVariables false
set_option linter.unusedSimpArgs false
namespace Go.Proofs.YtefgedflinoojaaDoor
open Go.RowKit Dc
attribute [local go_sem ↓] Go.wp_at_zero Go.wp_at_succ

/-- some bool -/
def AnyB (e : Ending) : Prop := ∃ q : Bool, e = .returned (.bool q)
theorem AnyB.mk' {e : Ending} {q : Bool} (h : e = .returned (.bool q)) : AnyB e := ⟨q, h⟩
theorem AnyB.ways {e : Ending} (h : AnyB e) : e = .returned (.bool false) ∨ e = .returned (.bool true) := by
  obtain ⟨q, rfl⟩ := h
  cases q
  · exact Or.inl rfl
  · exact Or.inr rfl
theorem ShPl.below {w w' : World} (h : ShPl w) (hb : Below w.heap.size w w') : ShPl w' := ⟨sh_below h.1 hb, h.2.below hb⟩
abbrev ptG : Pt := ⟨[], 0, false, 0, 0, 5, 0, false, 0⟩
theorem pinG : PtIn ptG := ⟨by decide, by decide, by decide, by decide, by decide, by decide, fun x hx => by cases hx⟩
abbrev ptB : Pt := ⟨[], 1, true, 0, 0, 3, 0, false, 0⟩
theorem pinB : PtIn ptB := ⟨by decide, by decide, by decide, by decide, by decide, by decide, fun x hx => by cases hx⟩
abbrev ptQ : Pt := ⟨[], 2, false, 5, 1, -3, 0, false, 0⟩
theorem pinQ : PtIn ptQ := ⟨by decide, by decide, by decide, by decide, by decide, by decide, fun x hx => by cases hx⟩
abbrev ptN : Pt := ⟨[], 0, false, 0, 0, -1, 0, false, 0⟩
theorem pinN : PtIn ptN := ⟨by decide, by decide, by decide, by decide, by decide, by decide, fun x hx => by cases hx⟩
theorem k_g1 (w : World) (h : ShPl w) : Calls Tryd.prog 10 #[.int .i64 1, ptv (.slice none 0 0) ptG] w fun e w' => e = .returned (.bool true) ∧ Below w.heap.size w w' :=
  (pgood_calls 1 _ ptG w (LbRow.nil w) pinG h.1 h.2).mono fun _ _ ⟨h, hb⟩ => ⟨by rw [h, show ptOk 1 ptG = true by decide], hb⟩
theorem k_g3 (w : World) (h : ShPl w) : Calls Tryd.prog 10 #[.int .i64 3, ptv (.slice none 0 0) ptG] w fun e w' => e = .returned (.bool false) ∧ Below w.heap.size w w' :=
  (pgood_calls 3 _ ptG w (LbRow.nil w) pinG h.1 h.2).mono fun _ _ ⟨h, hb⟩ => ⟨by rw [h, show ptOk 3 ptG = false by decide], hb⟩
theorem k_b3 (w : World) (h : ShPl w) : Calls Tryd.prog 10 #[.int .i64 3, ptv (.slice none 0 0) ptB] w fun e w' => e = .returned (.bool true) ∧ Below w.heap.size w w' :=
  (pgood_calls 3 _ ptB w (LbRow.nil w) pinB h.1 h.2).mono fun _ _ ⟨h, hb⟩ => ⟨by rw [h, show ptOk 3 ptB = true by decide], hb⟩
theorem k_q4 (w : World) (h : ShPl w) : Calls Tryd.prog 10 #[.int .i64 4, ptv (.slice none 0 0) ptQ] w fun e w' => e = .returned (.bool true) ∧ Below w.heap.size w w' :=
  (pgood_calls 4 _ ptQ w (LbRow.nil w) pinQ h.1 h.2).mono fun _ _ ⟨h, hb⟩ => ⟨by rw [h, show ptOk 4 ptQ = true by decide], hb⟩
theorem k_n2 (w : World) (h : ShPl w) : Calls Tryd.prog 10 #[.int .i64 2, ptv (.slice none 0 0) ptN] w fun e w' => e = .returned (.bool false) ∧ Below w.heap.size w w' :=
  (pgood_calls 2 _ ptN w (LbRow.nil w) pinN h.1 h.2).mono fun _ _ ⟨h, hb⟩ => ⟨by rw [h, show ptOk 2 ptN = false by decide], hb⟩
theorem k_cmp (w : World) : Calls Tryd.prog 7 #[ptv (.slice none 0 0) ptG, ptv (.slice none 0 0) ptB] w fun e w' => e = .returned (.int .i64 (-1)) ∧ Below w.heap.size w w' :=
  (pcompare_calls _ _ ptG ptB w (LbRow.nil w) (LbRow.nil w) pinG pinB).mono fun _ _ ⟨h, hb⟩ => ⟨by rw [h, show cmpP ptG ptB = -1 by decide], hb⟩
theorem k_same (w : World) : Calls Tryd.prog 8 #[ptv (.slice none 0 0) ptQ, ptv (.slice none 0 0) ptQ] w fun e w' => e = .returned (.bool true) ∧ Below w.heap.size w w' :=
  (psame_calls _ _ ptQ ptQ w (LbRow.nil w) (LbRow.nil w) pinQ pinQ).mono fun _ _ ⟨h, hb⟩ => ⟨by rw [h, show sameP ptQ ptQ = true by decide], hb⟩
theorem no_len {w : World} {v : Value} {l : List Int} (h : NoRow w v l) (n : Nat) (hn : l.length = n) : ∃ A cap, v = .slice A n cap := by
  obtain ⟨A, cap, rfl, _⟩ := h
  exact ⟨A, cap, by rw [hn]⟩
theorem k_ro4 (w : World) : Calls Tryd.prog 9 #[.int .i64 4] w fun e w' => (∃ A cap, e = .returned (.slice A 3 cap)) ∧ Below w.heap.size w w' :=
  (roles_calls 4 w).mono fun _ _ ⟨⟨v, h, hr⟩, hb⟩ => ⟨by obtain ⟨A, cap, rfl⟩ := no_len hr 3 rfl; exact ⟨A, cap, h⟩, hb⟩
theorem k_ro9 (w : World) : Calls Tryd.prog 9 #[.int .i64 9] w fun e w' => (∃ A cap, e = .returned (.slice A 0 cap)) ∧ Below w.heap.size w w' :=
  (roles_calls 9 w).mono fun _ _ ⟨⟨v, h, hr⟩, hb⟩ => ⟨by obtain ⟨A, cap, rfl⟩ := no_len hr 0 rfl; exact ⟨A, cap, h⟩, hb⟩

set_option maxHeartbeats 8000000 in
theorem pknown_calls (w : World) (h : ShPl w) :
    Calls Tryd.prog 5 #[] w fun e w' => e = .returned (.bool true) ∧ Below w.heap.size w w' := by
  have k0 := kp_alloc (kp_alloc (kp_alloc (Below.refl w.heap.size w) (.cells #[.slice none 0 0, .int .i64 0, .bool false, .int .i64 0, .int .i64 0, .int .i64 5, .int .i64 0, .bool false, .int .i64 0] 26)) (.cells #[.slice none 0 0, .int .i64 1, .bool true, .int .i64 0, .int .i64 0, .int .i64 3, .int .i64 0, .bool false, .int .i64 0] 26)) (.cells #[.slice none 0 0, .int .i64 2, .bool false, .int .i64 5, .int .i64 1, .int .i64 (-3), .int .i64 0, .bool false, .int .i64 0] 26)
  have h0 := h.below k0
  have K0 := Lib.hid k0
  clear k0
  go_enter Tryd.func5, Tryd.ntmps5
  go_wp2_with fail
  refine (k_g1 _ h0).mono ?_; rintro e w1 ⟨rfl, b1⟩
  have K1 := Lib.hid (trans9 K0.out b1)
  obtain ⟨q1, f1⟩ := bcell b1
  have x1a : w.heap.size < w1.heap.size := Nat.lt_of_lt_of_le (by first | (simp; done) | (simp; omega)) b1.size
  have x1b : w.heap.size + 1 < w1.heap.size := Nat.lt_of_lt_of_le (by first | (simp; done) | (simp; omega)) b1.size
  have x1c : w.heap.size + 2 < w1.heap.size := Nat.lt_of_lt_of_le (by first | (simp; done) | (simp; omega)) b1.size
  have h1 := h0.below b1
  clear h0
  clear b1
  go_wp2_with fail
  refine (k_g3 _ h1).mono ?_; rintro e w2 ⟨rfl, b2⟩
  have K2 := Lib.hid (trans9 K1.out b2)
  obtain ⟨q2, f2⟩ := bcell b2
  have x2a : w.heap.size < w2.heap.size := Nat.lt_of_lt_of_le x1a b2.size
  have x2b : w.heap.size + 1 < w2.heap.size := Nat.lt_of_lt_of_le x1b b2.size
  have x2c : w.heap.size + 2 < w2.heap.size := Nat.lt_of_lt_of_le x1c b2.size
  have h2 := h1.below b2
  clear h1
  clear b2
  go_wp2_with fail
  refine (k_b3 _ h2).mono ?_; rintro e w3 ⟨rfl, b3⟩
  have K3 := Lib.hid (trans9 K2.out b3)
  obtain ⟨q3, f3⟩ := bcell b3
  have x3a : w.heap.size < w3.heap.size := Nat.lt_of_lt_of_le x2a b3.size
  have x3b : w.heap.size + 1 < w3.heap.size := Nat.lt_of_lt_of_le x2b b3.size
  have x3c : w.heap.size + 2 < w3.heap.size := Nat.lt_of_lt_of_le x2c b3.size
  have h3 := h2.below b3
  clear h2
  clear b3
  go_wp2_with fail
  refine (k_q4 _ h3).mono ?_; rintro e w4 ⟨rfl, b4⟩
  have K4 := Lib.hid (trans9 K3.out b4)
  obtain ⟨q4, f4⟩ := bcell b4
  have x4a : w.heap.size < w4.heap.size := Nat.lt_of_lt_of_le x3a b4.size
  have x4b : w.heap.size + 1 < w4.heap.size := Nat.lt_of_lt_of_le x3b b4.size
  have x4c : w.heap.size + 2 < w4.heap.size := Nat.lt_of_lt_of_le x3c b4.size
  have h4 := h3.below b4
  clear h3
  clear b4
  go_wp2_with fail
  refine (k_n2 _ h4).mono ?_; rintro e w5 ⟨rfl, b5⟩
  have K5 := Lib.hid (trans9 K4.out b5)
  obtain ⟨q5, f5⟩ := bcell b5
  have x5a : w.heap.size < w5.heap.size := Nat.lt_of_lt_of_le x4a b5.size
  have x5b : w.heap.size + 1 < w5.heap.size := Nat.lt_of_lt_of_le x4b b5.size
  have x5c : w.heap.size + 2 < w5.heap.size := Nat.lt_of_lt_of_le x4c b5.size
  clear b5
  go_wp2_with fail
  refine (k_cmp _).mono ?_; rintro e w6 ⟨rfl, b6⟩
  have K6 := Lib.hid (trans9 K5.out b6)
  obtain ⟨q6, f6⟩ := bcell b6
  have x6a : w.heap.size < w6.heap.size := Nat.lt_of_lt_of_le x5a b6.size
  have x6b : w.heap.size + 1 < w6.heap.size := Nat.lt_of_lt_of_le x5b b6.size
  have x6c : w.heap.size + 2 < w6.heap.size := Nat.lt_of_lt_of_le x5c b6.size
  clear b6
  go_wp2_with fail
  refine (k_same _).mono ?_; rintro e w7 ⟨rfl, b7⟩
  have K7 := Lib.hid (trans9 K6.out b7)
  clear b7
  go_wp2_with fail
  refine (k_ro4 _).mono ?_; rintro e w8 ⟨⟨A8, cap8, rfl⟩, b8⟩
  have K8 := Lib.hid (trans9 K7.out b8)
  clear b8
  go_wp2_with fail
  refine (k_ro9 _).mono ?_; rintro e w9 ⟨⟨A9, cap9, rfl⟩, b9⟩
  have K9 := Lib.hid (trans9 K8.out b9)
  clear b9
  go_wp2_with fail
  go_ret
  exact ⟨rfl, K9.out⟩

set_option maxHeartbeats 4000000 in
theorem pshort_calls (v : Value) (p : Pt) (w : World) (hv : LbRow w v p.l) :
    Calls Tryd.prog 6 #[ptv v p] w fun e w' => AnyB e ∧ Below w.heap.size w w' := by
  obtain ⟨l, ro, inf, bm, bs, m, s, td, ti⟩ := p
  dsimp only at hv
  have kB := Lib.hid (kp_alloc (Below.refl w.heap.size w) (.cells #[v, .int .i64 ro, .bool inf, .int .i64 bm, .int .i64 bs, .int .i64 m, .int .i64 s, .bool td, .int .i64 ti] 26))
  have hv1 := hv.below kB.out
  obtain ⟨A, cap, rfl, hlc, hcm, hnil, hrow⟩ := hv1
  unfold maxLen at hcm
  have HR := Lib.hid hrow
  clear hrow hnil hv
  dsimp only [ptv]
  go_enter Tryd.func6, Tryd.ntmps6
  go_wp2_with fail
  go_loop [3] (fun v => ∃ k : Nat, k ≤ l.length ∧ v = .int .i64 (k : Nat)) (fun v => l.length - (intOf v).toNat)
  case atStart => exact ⟨0, Nat.zero_le _, rfl⟩
  case round =>
    obtain ⟨k, hk, rfl⟩ := hrel
    by_cases hkl : k < l.length
    · obtain ⟨b, off, rfl, hbs, hc⟩ := HR.out (by omega)
      obtain ⟨c0, c1⟩ := hc k (lbAt l k) (at_get hkl)
      generalize lbAt l k = X at *
      obtain ⟨X1, X2⟩ := X
      simp only at c0 c1
      clear hc
      have hz1 := str_size X1
      have hz2 := str_size X2
      by_cases h1 : (100 : Int) < (X1.length : Int)
      · have d1 : decide ((100 : Int) < (X1.length : Int)) = true := decide_eq_true h1
        have d1' : decide (100 < X1.length) = true := by simp; omega
        go_wp2
        go_ret
        exact ⟨AnyB.mk' rfl, kB.out⟩
      · have d1 : decide ((100 : Int) < (X1.length : Int)) = false := decide_eq_false h1
        have d1' : decide (100 < X1.length) = false := by simp; omega
        by_cases h2 : (100 : Int) < (X2.length : Int)
        · have d2 : decide ((100 : Int) < (X2.length : Int)) = true := decide_eq_true h2
          have d2' : decide (100 < X2.length) = true := by simp; omega
          go_wp2
          go_ret
          exact ⟨AnyB.mk' rfl, kB.out⟩
        · have d2 : decide ((100 : Int) < (X2.length : Int)) = false := decide_eq_false h2
          have d2' : decide (100 < X2.length) = false := by simp; omega
          go_wp2
          go_round
          case rel => exact ⟨k + 1, hkl, by go_num⟩
          case measure => simp [intOf]; omega
    · go_wp2
      go_ret
      exact ⟨AnyB.mk' rfl, kB.out⟩

end Go.Proofs.YtefgedflinoojaaDoor
