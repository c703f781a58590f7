/- The walk of the law SumBack. -/
import Derived.Test.YtpciohnnnpgpiaaSumL
import Derived.Test.YtpciohnnnpgpiaaFrame
import Derived.Deep.DeepCutAuto
import Derived.Deep.DeepCutAuto
namespace Go.Proofs.Ytpciohnnnpgpiaa
open Go.RowKit Dc
attribute [local go_sem ↓] Go.wp_at_zero Go.wp_at_succ

theorem neq_same (a b : Int) (W : World) : (binOp .neq 25 (dv2 a b) (dv2 a b)).run Try.prog W = .ok (.bool false) W := by
  go_simp
/-- the product by one of its factors -/
theorem times_back {p i q j c : Int} {k : Nat} (h : Gd p i) (g : Gd q j) (ht : timesO p i q j = some (c, k)) : Gd c k ∧ (q ≠ 0 → overO c k q j = some (p, i.toNat)) := by
  unfold timesO at ht
  rw [if_pos ⟨h.good, g.good⟩] at ht
  obtain ⟨h1, h2, h3, h4, h5⟩ := decOf_is ht
  obtain ⟨h6, h7, h8⟩ := decOf_val ht
  refine ⟨⟨h1, h2⟩, fun hq => ?_⟩
  have hs := h.s0
  have hs1 := h.s1
  have hj := g.s0
  have hj1 := g.s1
  have hd : dvd c k j = p.natAbs * 10 ^ (18 - i).toNat * q.natAbs := by
    unfold dvd
    rw [show (18 - (k : Int) + j).toNat = ((i + j).toNat - k) + (18 - i).toNat by omega, Nat.pow_add, ← Nat.mul_assoc, h8, Nat.mul_right_comm]
  have hqp : 0 < q.natAbs := by omega
  unfold overO
  rw [hd, if_pos ⟨h1, g.good, hq, Nat.mul_mod_left _ _⟩, Nat.mul_div_cancel _ hqp]
  have hp := decOf_pad (decide (c < 0) != decide (q < 0)) p.natAbs i.toNat (18 - i).toNat
  rw [show ((i.toNat + (18 - i).toNat : Nat) : Int) = 18 by omega, show ((i.toNat : Nat) : Int) = i by omega] at hp
  rw [hp]
  have hg := decOf_good p i h.small h.good
  by_cases hp0 : p.natAbs = 0
  · rw [hp0] at hg ⊢
    rw [decOf_zero _ (decide (p < 0)), hg]
  · have hne : p.natAbs * q.natAbs ≠ 0 := Nat.mul_ne_zero hp0 (by omega)
    rw [(h5 hne).2]
    have : ((decide (p < 0) != decide (q < 0)) != decide (q < 0)) = decide (p < 0) := by cases decide (p < 0) <;> cases decide (q < 0) <;> rfl
    rw [this, hg]
set_option maxRecDepth 100000 in
set_option maxHeartbeats 8000000 in
theorem back_walk (m n x y : Int) (w : World) (hm : -9223372036854775808 ≤ m) (hm2 : m ≤ 9223372036854775807) (hn : -9223372036854775808 ≤ n) (hn2 : n ≤ 9223372036854775807) (hx : 0 ≤ x) (hx2 : x ≤ 255) (hy : 0 ≤ y) (hy2 : y ≤ 255) :
    Calls Try.prog 5 #[.int .i64 m, .int .i64 n, .int .u8 x, .int .u8 y] w fun e w' => e = .returned (.bool true) ∧ Below w.heap.size w w' := by
  have hdp := Lib.hid (fun W => dot_calls m (x % 19) W hm hm2 (by omega) (by omega))
  have gp := Gd.dot m (x % 19)
  obtain ⟨p, hp⟩ : ∃ u, u = (dotO m (x % 19)).1 := ⟨_, rfl⟩
  obtain ⟨i, hi⟩ : ∃ u, u = (dotO m (x % 19)).2 := ⟨_, rfl⟩
  rw [← hp, ← hi] at hdp gp
  clear hp hi
  have hdq := Lib.hid (fun W => dot_calls n (y % 19) W hn hn2 (by omega) (by omega))
  have gq := Gd.dot n (y % 19)
  obtain ⟨q, hq⟩ : ∃ u, u = (dotO n (y % 19)).1 := ⟨_, rfl⟩
  obtain ⟨j, hj⟩ : ∃ u, u = (dotO n (y % 19)).2 := ⟨_, rfl⟩
  rw [← hq, ← hj] at hdq gq
  clear hq hj
  have hA1 := Lib.hid (fun W v hv => add2_calls gp gq v W hv)
  have hT1 := Lib.hid (fun W => times_of p i q j W _ rfl gp.lo gp.hi gq.lo gq.hi)
  have hN1 := Lib.hid (fun W => neg_calls gq W)
  have hO2 := Lib.hid (fun W => over_of p i 0 0 W _ (overO_zero rfl) gp.lo gp.hi (by decide) (by decide))
  rw [show normV none = Value.tuple #[dv2 0 0, .bool false] from rfl] at hO2
  have kB := Below.refl w.heap.size w
  clear hm hm2 hn hn2
  go_enter Try.func5, Try.ntmps5
  go_wp2_with fail
  refine (known_calls _).mono ?_; rintro e w1 ⟨rfl, b1⟩
  replace kB := kB.trans (b1.mono kB.size)
  clear b1
  go_wp2_with fail
  refine (hdp.out _).mono ?_; rintro e w2 ⟨rfl, b2⟩
  replace kB := kB.trans (b2.mono kB.size)
  clear b2
  go_wp2_with fail
  refine (hdq.out _).mono ?_; rintro e w3 ⟨rfl, b3⟩
  replace kB := kB.trans (b3.mono kB.size)
  clear b3
  replace kB := kb_alloc kB (Nat.le_refl _) (.cells #[.int .i64 p, .int .i64 i] 25)
  have kd9 := DecAt.new w3 p i
  replace kB := kb_alloc kB (Nat.le_refl _) (.cells #[.int .i64 q, .int .i64 j] 25)
  replace kd9 := kd9.alloc (.cells #[.int .i64 q, .int .i64 j] 25)
  have kd10 := DecAt.new (w3.alloc (.cells #[.int .i64 p, .int .i64 i] 25)) q j
  go_upto_region 4 with (fail)
  obtain ⟨W4, hcur⟩ : ∃ uu, uu = (w3.alloc (.cells #[.int .i64 p, .int .i64 i] 25)).alloc (.cells #[.int .i64 q, .int .i64 j] 25) := ⟨_, rfl⟩
  rw [← hcur] at kB kd9 kd10 ⊢
  clear hcur
  rw [show (w3.alloc (.cells #[.int .i64 p, .int .i64 i] 25)).heap.size = w3.heap.size + 1 by simp] at kd10
  obtain ⟨z10, hcur⟩ : ∃ uu, uu = w3.heap.size + 1 := ⟨_, rfl⟩
  rw [← hcur] at kd10 ⊢
  clear hcur
  obtain ⟨z9, hcur⟩ : ∃ uu, uu = w3.heap.size := ⟨_, rfl⟩
  rw [← hcur] at kd9 ⊢
  clear hcur
  have c0d9 := kd9.c0; have c1d9 := kd9.c1; have c0d10 := kd10.c0; have c1d10 := kd10.c1
  go_wp2_with fail
  clear c0d9 c1d9 c0d10 c1d10
  have krow := row2 W4 p i q j
  replace kB := kb_alloc kB (Nat.le_refl _) (.cells #[.int .i64 p, .int .i64 i, .int .i64 q, .int .i64 j] 25)
  replace kd9 := kd9.alloc (.cells #[.int .i64 p, .int .i64 i, .int .i64 q, .int .i64 j] 25)
  replace kd10 := kd10.alloc (.cells #[.int .i64 p, .int .i64 i, .int .i64 q, .int .i64 j] 25)
  refine (hA1.out _ _ krow).mono ?_; rintro e w5 ⟨rfl, b5⟩
  replace kB := kB.trans (b5.mono kB.size)
  replace kd9 := kd9.below b5
  replace kd10 := kd10.below b5
  clear b5
  clear krow
  cases hsum : decI (zv p i + zv q j) with
  | none =>
    rw [show normV none = Value.tuple #[dv2 0 0, .bool false] from rfl]
    clear hsum
    replace kB := kb_alloc kB (Nat.le_refl _) (.cells #[.int .i64 0, .int .i64 0] 25)
    replace kd9 := kd9.alloc (.cells #[.int .i64 0, .int .i64 0] 25)
    replace kd10 := kd10.alloc (.cells #[.int .i64 0, .int .i64 0] 25)
    have kd11 := DecAt.new w5 0 0
    go_upto_region 9 with (fail)
    obtain ⟨W6, hcur⟩ : ∃ uu, uu = w5.alloc (.cells #[.int .i64 0, .int .i64 0] 25) := ⟨_, rfl⟩
    rw [← hcur] at kB kd9 kd10 kd11 ⊢
    clear hcur
    obtain ⟨z11, hcur⟩ : ∃ uu, uu = w5.heap.size := ⟨_, rfl⟩
    rw [← hcur] at kd11 ⊢
    clear hcur
    have c0d9 := kd9.c0; have c1d9 := kd9.c1; have c0d10 := kd10.c0; have c1d10 := kd10.c1
    go_wp2_with fail
    clear c0d9 c1d9 c0d10 c1d10
    refine (hT1.out _).mono ?_; rintro e w7 ⟨rfl, b7⟩
    replace kB := kB.trans (b7.mono kB.size)
    replace kd9 := kd9.below b7
    replace kd10 := kd10.below b7
    replace kd11 := kd11.below b7
    clear b7
    cases hto : timesO p i q j with
    | none =>
      rw [show normV none = Value.tuple #[dv2 0 0, .bool false] from rfl]
      clear hto
      replace kB := kb_alloc kB (Nat.le_refl _) (.cells #[.int .i64 0, .int .i64 0] 25)
      replace kd9 := kd9.alloc (.cells #[.int .i64 0, .int .i64 0] 25)
      replace kd10 := kd10.alloc (.cells #[.int .i64 0, .int .i64 0] 25)
      replace kd11 := kd11.alloc (.cells #[.int .i64 0, .int .i64 0] 25)
      have kd15 := DecAt.new w7 0 0
      have qz := fun W => eql_same 0 0 W
      go_wp2_with fail
      go_ret
      exact ⟨rfl, kB⟩
    | some r =>
      obtain ⟨c, k⟩ := r
      rw [show normV (some (c, k)) = Value.tuple #[dv2 c (k : Int), .bool true] from rfl]
      have gc := (times_back gp gq hto).1
      have hov := Lib.hid ((times_back gp gq hto).2)
      clear hto
      replace kB := kb_alloc kB (Nat.le_refl _) (.cells #[.int .i64 c, .int .i64 (k : Int)] 25)
      replace kd9 := kd9.alloc (.cells #[.int .i64 c, .int .i64 (k : Int)] 25)
      replace kd10 := kd10.alloc (.cells #[.int .i64 c, .int .i64 (k : Int)] 25)
      replace kd11 := kd11.alloc (.cells #[.int .i64 c, .int .i64 (k : Int)] 25)
      have kd15 := DecAt.new w7 c (k : Int)
      go_upto_region 12 with (fail)
      obtain ⟨W8, hcur⟩ : ∃ uu, uu = w7.alloc (.cells #[.int .i64 c, .int .i64 (k : Int)] 25) := ⟨_, rfl⟩
      rw [← hcur] at kB kd9 kd10 kd11 kd15 ⊢
      clear hcur
      obtain ⟨z15, hcur⟩ : ∃ uu, uu = w7.heap.size := ⟨_, rfl⟩
      rw [← hcur] at kd15 ⊢
      clear hcur
      by_cases hq0 : q = 0
      · have hqb : (q == 0) = true := by simpa using hq0
        have hqb2 : (q != 0) = false := by simpa using hq0
        have hO1 := Lib.hid (fun W => over_of c (k : Int) q j W _ (overO_zero hq0) gc.lo gc.hi gq.lo gq.hi)
        rw [show normV none = Value.tuple #[dv2 0 0, .bool false] from rfl] at hO1
        clear hq0 hov
        have c0d15 := kd15.c0; have c1d15 := kd15.c1; have c0d10 := kd10.c0; have c1d10 := kd10.c1
        go_wp2_with fail
        clear c0d15 c1d15 c0d10 c1d10
        refine (hO1.out _).mono ?_; rintro e w9 ⟨rfl, b9⟩
        replace kB := kB.trans (b9.mono kB.size)
        replace kd9 := kd9.below b9
        replace kd10 := kd10.below b9
        replace kd11 := kd11.below b9
        replace kd15 := kd15.below b9
        clear b9
        replace kB := kb_alloc kB (Nat.le_refl _) (.cells #[.int .i64 0, .int .i64 0] 25)
        replace kd9 := kd9.alloc (.cells #[.int .i64 0, .int .i64 0] 25)
        replace kd10 := kd10.alloc (.cells #[.int .i64 0, .int .i64 0] 25)
        replace kd11 := kd11.alloc (.cells #[.int .i64 0, .int .i64 0] 25)
        replace kd15 := kd15.alloc (.cells #[.int .i64 0, .int .i64 0] 25)
        have kd17 := DecAt.new w9 0 0
        go_upto_region 13 with (fail)
        obtain ⟨W10, hcur⟩ : ∃ uu, uu = w9.alloc (.cells #[.int .i64 0, .int .i64 0] 25) := ⟨_, rfl⟩
        rw [← hcur] at kB kd9 kd10 kd11 kd15 kd17 ⊢
        clear hcur
        obtain ⟨z17, hcur⟩ : ∃ uu, uu = w9.heap.size := ⟨_, rfl⟩
        rw [← hcur] at kd17 ⊢
        clear hcur
        have c0d9 := kd9.c0; have c1d9 := kd9.c1
        go_wp2_with fail
        clear c0d9 c1d9
        refine (hO2.out _).mono ?_; rintro e w11 ⟨rfl, b11⟩
        replace kB := kB.trans (b11.mono kB.size)
        replace kd9 := kd9.below b11
        replace kd10 := kd10.below b11
        replace kd11 := kd11.below b11
        replace kd15 := kd15.below b11
        replace kd17 := kd17.below b11
        clear b11
        replace kB := kb_alloc kB (Nat.le_refl _) (.cells #[.int .i64 0, .int .i64 0] 25)
        replace kd9 := kd9.alloc (.cells #[.int .i64 0, .int .i64 0] 25)
        replace kd10 := kd10.alloc (.cells #[.int .i64 0, .int .i64 0] 25)
        replace kd11 := kd11.alloc (.cells #[.int .i64 0, .int .i64 0] 25)
        replace kd15 := kd15.alloc (.cells #[.int .i64 0, .int .i64 0] 25)
        replace kd17 := kd17.alloc (.cells #[.int .i64 0, .int .i64 0] 25)
        have kd19 := DecAt.new w11 0 0
        have c0d10 := kd10.c0; have c1d10 := kd10.c1
        go_wp2_with fail
        clear c0d10 c1d10
        go_ret
        exact ⟨rfl, kB⟩
      · have hqb : (q == 0) = false := by simpa using hq0
        have hqb2 : (q != 0) = true := by simpa using hq0
        have hO1 := Lib.hid (fun W => over_of c (k : Int) q j W _ (hov.out hq0) gc.lo gc.hi gq.lo gq.hi)
        rw [show normV (some (p, i.toNat)) = Value.tuple #[dv2 p ((i.toNat : Nat) : Int), .bool true] from rfl, show ((i.toNat : Nat) : Int) = i by have := gp.s0; omega] at hO1
        clear hq0 hov
        have c0d15 := kd15.c0; have c1d15 := kd15.c1; have c0d10 := kd10.c0; have c1d10 := kd10.c1
        go_wp2_with fail
        clear c0d15 c1d15 c0d10 c1d10
        refine (hO1.out _).mono ?_; rintro e w9 ⟨rfl, b9⟩
        replace kB := kB.trans (b9.mono kB.size)
        replace kd9 := kd9.below b9
        replace kd10 := kd10.below b9
        replace kd11 := kd11.below b9
        replace kd15 := kd15.below b9
        clear b9
        replace kB := kb_alloc kB (Nat.le_refl _) (.cells #[.int .i64 p, .int .i64 i] 25)
        replace kd9 := kd9.alloc (.cells #[.int .i64 p, .int .i64 i] 25)
        replace kd10 := kd10.alloc (.cells #[.int .i64 p, .int .i64 i] 25)
        replace kd11 := kd11.alloc (.cells #[.int .i64 p, .int .i64 i] 25)
        replace kd15 := kd15.alloc (.cells #[.int .i64 p, .int .i64 i] 25)
        have kd17 := DecAt.new w9 p i
        go_upto_region 13 with (fail)
        obtain ⟨W10, hcur⟩ : ∃ uu, uu = w9.alloc (.cells #[.int .i64 p, .int .i64 i] 25) := ⟨_, rfl⟩
        rw [← hcur] at kB kd9 kd10 kd11 kd15 kd17 ⊢
        clear hcur
        obtain ⟨z17, hcur⟩ : ∃ uu, uu = w9.heap.size := ⟨_, rfl⟩
        rw [← hcur] at kd17 ⊢
        clear hcur
        have c0d9 := kd9.c0; have c1d9 := kd9.c1
        go_wp2_with fail
        clear c0d9 c1d9
        refine (hO2.out _).mono ?_; rintro e w11 ⟨rfl, b11⟩
        replace kB := kB.trans (b11.mono kB.size)
        replace kd9 := kd9.below b11
        replace kd10 := kd10.below b11
        replace kd11 := kd11.below b11
        replace kd15 := kd15.below b11
        replace kd17 := kd17.below b11
        clear b11
        replace kB := kb_alloc kB (Nat.le_refl _) (.cells #[.int .i64 0, .int .i64 0] 25)
        replace kd9 := kd9.alloc (.cells #[.int .i64 0, .int .i64 0] 25)
        replace kd10 := kd10.alloc (.cells #[.int .i64 0, .int .i64 0] 25)
        replace kd11 := kd11.alloc (.cells #[.int .i64 0, .int .i64 0] 25)
        replace kd15 := kd15.alloc (.cells #[.int .i64 0, .int .i64 0] 25)
        replace kd17 := kd17.alloc (.cells #[.int .i64 0, .int .i64 0] 25)
        have kd19 := DecAt.new w11 0 0
        have qp := fun W => eql_same p i W
        have e0 := (kd17).c0; have e1 := (kd17).c1; have e2 := (kd9).c0; have e3 := (kd9).c1
        have c0d10 := kd10.c0; have c1d10 := kd10.c1
        go_wp2_with fail
        clear c0d10 c1d10
        go_ret
        exact ⟨rfl, kB⟩
  | some r =>
    obtain ⟨x1, x2⟩ := r
    rw [show normV (some (x1, x2)) = Value.tuple #[dv2 x1 (x2 : Int), .bool true] from rfl]
    obtain ⟨gx, hxz⟩ := Gd.of_decI hsum
    have hA2 := Lib.hid (fun W v hv => add2_calls gx gq.neg v W hv)
    rw [zv_negate, hxz, Int.add_neg_cancel_right, gp.decI, show normV (some (p, i.toNat)) = Value.tuple #[dv2 p ((i.toNat : Nat) : Int), .bool true] from rfl, show ((i.toNat : Nat) : Int) = i by have := gp.s0; omega] at hA2
    clear hsum hxz gx
    replace kB := kb_alloc kB (Nat.le_refl _) (.cells #[.int .i64 x1, .int .i64 (x2 : Int)] 25)
    replace kd9 := kd9.alloc (.cells #[.int .i64 x1, .int .i64 (x2 : Int)] 25)
    replace kd10 := kd10.alloc (.cells #[.int .i64 x1, .int .i64 (x2 : Int)] 25)
    have kd11 := DecAt.new w5 x1 (x2 : Int)
    go_upto_region 6 with (fail)
    obtain ⟨W6, hcur⟩ : ∃ uu, uu = w5.alloc (.cells #[.int .i64 x1, .int .i64 (x2 : Int)] 25) := ⟨_, rfl⟩
    rw [← hcur] at kB kd9 kd10 kd11 ⊢
    clear hcur
    obtain ⟨z11, hcur⟩ : ∃ uu, uu = w5.heap.size := ⟨_, rfl⟩
    rw [← hcur] at kd11 ⊢
    clear hcur
    go_cut [13, 14] (fun s1 s2 wx => ∃ z13, s1 = .pointer (some ⟨z13, 0, none⟩) ∧ s2 = .bool true ∧ Below w.heap.size w wx ∧ DecAt wx z9 p i ∧ DecAt wx z10 q j ∧ DecAt wx z11 x1 (x2 : Int) ∧ DecAt wx z13 p i)
    case first =>
      refine wp_region_noPanic ?_
      refine wp_region_held_drew (S := fun X => Below w.heap.size w X ∧ DecAt X z10 q j ∧ DecAt X z11 x1 (x2 : Int)) (by kernel_rfl) ?_ (fun hHeld => ?_)
      · exact ⟨Below.drew kB, DecAt.drew kd10, DecAt.drew kd11⟩
      replace kB := Below.drew kB
      replace kd9 := DecAt.drew kd9
      replace kd10 := DecAt.drew kd10
      replace kd11 := DecAt.drew kd11
      obtain ⟨qw, hcur⟩ : ∃ uu, uu = W6.drew := ⟨_, rfl⟩
      rw [← hcur] at hHeld kB kd9 kd10 kd11 ⊢
      clear hcur
      refine wpAnyH_take (i := 0) (v := ?_) (by simp only [List.getElem?_toArray, List.getElem?_cons_succ, List.getElem?_cons_zero]; rfl) (by kernel_rfl) (by kernel_rfl) (by kernel_rfl) (fun _ _ _ h => h) (Or.inl ⟨by rfl, ?_⟩) hHeld ?_
      rotate_left
      · intro x hSw; (try dsimp only at hSw); obtain ⟨_, hd10, hd11⟩ := hSw; have c0d10 := hd10.c0; have c1d10 := hd10.c1; have c0d11 := hd11.c0; have c1d11 := hd11.c1; first | (go_simp; done) | (go_simp; with_reducible rfl)
      try simp only [Act.put, List.setIfInBounds_toArray, List.set_cons_zero, List.set_cons_succ]
      refine wpAnyH_take (i := 1) (v := ?_) (by simp only [List.getElem?_toArray, List.getElem?_cons_succ, List.getElem?_cons_zero]; rfl) (by kernel_rfl) (by kernel_rfl) (by kernel_rfl) (fun _ _ _ h => h) (Or.inl ⟨by rfl, ?_⟩) hHeld ?_
      rotate_left
      · intro x hSw; (try dsimp only at hSw); obtain ⟨_, hd10, hd11⟩ := hSw; have c0d10 := hd10.c0; have c1d10 := hd10.c1; have c0d11 := hd11.c0; have c1d11 := hd11.c1; first | (go_simp; done) | (go_simp; with_reducible rfl)
      try simp only [Act.put, List.setIfInBounds_toArray, List.set_cons_zero, List.set_cons_succ]
      refine wpAnyH_ready (rs := [2, 8]) (by kernel_rfl) (by simp) ?_
      refine AllReadyH.cons (by simp only [List.getElem?_toArray, List.getElem?_cons_succ, List.getElem?_cons_zero]; rfl) (fun K hK => ?_) ?_
      · try go_simp
        refine (hN1.out _).mono ?_; rintro e wq1 ⟨rfl, q1⟩
        replace kB := kB.trans (q1.mono kB.size)
        replace kd9 := kd9.below q1
        replace kd10 := kd10.below q1
        replace kd11 := kd11.below q1
        clear q1
        try go_wp2_with fail
        refine hK.out _ _ ?_ (fun hHeld => ?_)
        · exact ⟨kB, kd10, kd11⟩
        clear hK K
        try simp only [Act.put, List.setIfInBounds_toArray, List.set_cons_zero, List.set_cons_succ]
        refine wpAnyH_ready (rs := [3, 8]) (by kernel_rfl) (by simp) ?_
        refine AllReadyH.cons (by simp only [List.getElem?_toArray, List.getElem?_cons_succ, List.getElem?_cons_zero]; rfl) (fun K hK => ?_) ?_
        · go_simp
          have kw45 := row2 wq1 x1 (x2 : Int) (-q) j
          have hge_bs := kB.size
          have hne_bs_d9 := kd9.lt
          have hne_bs_d10 := kd10.lt
          have hne_bs_d11 := kd11.lt
          replace kd9 := kd9.alloc (.cells #[.int .i64 x1, .int .i64 (x2 : Int), .int .i64 (-q), .int .i64 j] 25)
          replace kd10 := kd10.alloc (.cells #[.int .i64 x1, .int .i64 (x2 : Int), .int .i64 (-q), .int .i64 j] 25)
          replace kd11 := kd11.alloc (.cells #[.int .i64 x1, .int .i64 (x2 : Int), .int .i64 (-q), .int .i64 j] 25)
          replace kB := kb_alloc kB (Nat.le_refl _) (.cells #[.int .i64 x1, .int .i64 (x2 : Int), .int .i64 (-q), .int .i64 j] 25)
          obtain ⟨bs, hcur⟩ : ∃ uu, uu = wq1.heap.size := ⟨_, rfl⟩
          rw [← hcur] at hge_bs kw45 hne_bs_d9 hne_bs_d10 hne_bs_d11 ⊢
          clear hcur
          obtain ⟨q2, hcur⟩ : ∃ uu, uu = wq1.alloc (.cells #[.int .i64 x1, .int .i64 (x2 : Int), .int .i64 (-q), .int .i64 j] 25) := ⟨_, rfl⟩
          rw [← hcur] at kB kd9 kd10 kd11 kw45 ⊢
          clear hcur
          refine hK.out _ _ ?_ (fun hHeld => ?_)
          · exact ⟨kB, kd10, kd11⟩
          clear hK K
          try simp only [Act.put, List.setIfInBounds_toArray, List.set_cons_zero, List.set_cons_succ]
          refine wpAnyH_ready (rs := [4, 8]) (by kernel_rfl) (by simp) ?_
          refine AllReadyH.cons (by simp only [List.getElem?_toArray, List.getElem?_cons_succ, List.getElem?_cons_zero]; rfl) (fun K hK => ?_) ?_
          · try go_simp
            refine (hA2.out _ _ kw45).mono ?_; rintro e wq3 ⟨rfl, q3⟩
            replace kB := kB.trans (q3.mono kB.size)
            replace kd9 := kd9.below q3
            replace kd10 := kd10.below q3
            replace kd11 := kd11.below q3
            replace kw45 := kw45.below q3
            clear q3
            try go_wp2_with fail
            refine hK.out _ _ ?_ (fun hHeld => ?_)
            · exact ⟨kB, kd10, kd11⟩
            clear hK K
            try simp only [Act.put, List.setIfInBounds_toArray, List.set_cons_zero, List.set_cons_succ]
            refine wpAnyH_take (i := 5) (v := ?_) (by simp only [List.getElem?_toArray, List.getElem?_cons_succ, List.getElem?_cons_zero]; rfl) (by kernel_rfl) (by kernel_rfl) (by kernel_rfl) (fun _ _ _ h => h) (Or.inl ⟨by rfl, ?_⟩) hHeld ?_
            rotate_left
            · intro x hSw; first | (go_simp; done) | (go_simp; with_reducible rfl)
            try simp only [Act.put, List.setIfInBounds_toArray, List.set_cons_zero, List.set_cons_succ]
            refine wpAnyH_take (i := 6) (v := ?_) (by simp only [List.getElem?_toArray, List.getElem?_cons_succ, List.getElem?_cons_zero]; rfl) (by kernel_rfl) (by kernel_rfl) (by kernel_rfl) (fun _ _ _ h => h) (Or.inl ⟨by rfl, ?_⟩) hHeld ?_
            rotate_left
            · intro x hSw; first | (go_simp; done) | (go_simp; with_reducible rfl)
            try simp only [Act.put, List.setIfInBounds_toArray, List.set_cons_zero, List.set_cons_succ]
            refine wpAnyH_take (i := 7) (v := ?_) (by simp only [List.getElem?_toArray, List.getElem?_cons_succ, List.getElem?_cons_zero]; rfl) (by kernel_rfl) (by kernel_rfl) (by kernel_rfl) (fun _ _ _ h => h) (Or.inl ⟨by rfl, ?_⟩) hHeld ?_
            rotate_left
            · intro x hSw; first | (go_simp; done) | (go_simp; with_reducible rfl)
            try simp only [Act.put, List.setIfInBounds_toArray, List.set_cons_zero, List.set_cons_succ]
            refine wpAnyH_ready (rs := [8]) (by kernel_rfl) (by simp) ?_
            refine AllReadyH.cons (by simp only [List.getElem?_toArray, List.getElem?_cons_succ, List.getElem?_cons_zero]; rfl) (fun K hK => ?_) AllReadyH.nil
            go_simp
            have kd13 := DecAt.new wq3 0 0
            have hge_z13 := kB.size
            have hne_z13_d9 := kd9.lt
            have hne_z13_d10 := kd10.lt
            have hne_z13_d11 := kd11.lt
            replace kd9 := kd9.alloc (.cells #[.int .i64 0, .int .i64 0] 25)
            replace kd10 := kd10.alloc (.cells #[.int .i64 0, .int .i64 0] 25)
            replace kd11 := kd11.alloc (.cells #[.int .i64 0, .int .i64 0] 25)
            replace kw45 := kw45.alloc (.cells #[.int .i64 0, .int .i64 0] 25)
            replace kB := kb_alloc kB (Nat.le_refl _) (.cells #[.int .i64 0, .int .i64 0] 25)
            obtain ⟨z13, hcur⟩ : ∃ uu, uu = wq3.heap.size := ⟨_, rfl⟩
            rw [← hcur] at hge_z13 kd13 hne_z13_d9 hne_z13_d10 hne_z13_d11 ⊢
            clear hcur
            obtain ⟨q4, hcur⟩ : ∃ uu, uu = wq3.alloc (.cells #[.int .i64 0, .int .i64 0] 25) := ⟨_, rfl⟩
            rw [← hcur] at kB kd9 kd10 kd11 kw45 kd13 ⊢
            clear hcur
            refine hK.out _ _ ?_ (fun hHeld => ?_)
            · exact ⟨kB, kd10, kd11⟩
            clear hK K
            try simp only [Act.put, List.setIfInBounds_toArray, List.set_cons_zero, List.set_cons_succ]
            refine wpAnyH_ready (rs := [9]) (by kernel_rfl) (by simp) ?_
            refine AllReadyH.cons (by simp only [List.getElem?_toArray, List.getElem?_cons_succ, List.getElem?_cons_zero]; rfl) (fun K hK => ?_) AllReadyH.nil
            have sc0 := kd13.c0; have sc1 := kd13.c1; have sf0 := kd13.f0; have sf1 := kd13.f1
            go_simp
            clear sc0 sc1 sf0 sf1
            replace kB := below_put (g := z13) kB (by omega) (p) (i)
            replace kd9 := kd9.putOther (g := z13) (by omega) (p) (i)
            replace kd10 := kd10.putOther (g := z13) (by omega) (p) (i)
            replace kd11 := kd11.putOther (g := z13) (by omega) (p) (i)
            replace kd13 := kd13.put (p) (i)
            clear kw45
            unfold putDec at kB kd9 kd10 kd11 kd13
            refine hK.out _ _ ?_ (fun hHeld => ?_)
            · exact ⟨kB, kd10, kd11⟩
            clear hK K
            try simp only [Act.put, List.setIfInBounds_toArray, List.set_cons_zero, List.set_cons_succ]
            refine wpAnyH_take (i := 10) (v := ?_) (by simp only [List.getElem?_toArray, List.getElem?_cons_succ, List.getElem?_cons_zero]; rfl) (by kernel_rfl) (by kernel_rfl) (by kernel_rfl) (fun _ _ _ h => h) (Or.inl ⟨by rfl, ?_⟩) hHeld ?_
            rotate_left
            · intro x hSw; first | (go_simp; done) | (go_simp; with_reducible rfl)
            try simp only [Act.put, List.setIfInBounds_toArray, List.set_cons_zero, List.set_cons_succ]
            refine wpAnyH_done (by kernel_rfl) ?_ _
            refine NoPanic.normal ?_
            go_wp2_with fail
            go_meet
            exact ⟨z13, rfl, rfl, kB, kd9, kd10, kd11, kd13⟩
          refine AllReadyH.cons (by simp only [List.getElem?_toArray, List.getElem?_cons_succ, List.getElem?_cons_zero]; rfl) (fun K hK => ?_) AllReadyH.nil
          go_simp
          have kd13 := DecAt.new q2 0 0
          have hge_z13 := kB.size
          have hne_z13_d9 := kd9.lt
          have hne_z13_d10 := kd10.lt
          have hne_z13_d11 := kd11.lt
          replace kd9 := kd9.alloc (.cells #[.int .i64 0, .int .i64 0] 25)
          replace kd10 := kd10.alloc (.cells #[.int .i64 0, .int .i64 0] 25)
          replace kd11 := kd11.alloc (.cells #[.int .i64 0, .int .i64 0] 25)
          replace kw45 := kw45.alloc (.cells #[.int .i64 0, .int .i64 0] 25)
          replace kB := kb_alloc kB (Nat.le_refl _) (.cells #[.int .i64 0, .int .i64 0] 25)
          obtain ⟨z13, hcur⟩ : ∃ uu, uu = q2.heap.size := ⟨_, rfl⟩
          rw [← hcur] at hge_z13 kd13 hne_z13_d9 hne_z13_d10 hne_z13_d11 ⊢
          clear hcur
          obtain ⟨q5, hcur⟩ : ∃ uu, uu = q2.alloc (.cells #[.int .i64 0, .int .i64 0] 25) := ⟨_, rfl⟩
          rw [← hcur] at kB kd9 kd10 kd11 kw45 kd13 ⊢
          clear hcur
          refine hK.out _ _ ?_ (fun hHeld => ?_)
          · exact ⟨kB, kd10, kd11⟩
          clear hK K
          try simp only [Act.put, List.setIfInBounds_toArray, List.set_cons_zero, List.set_cons_succ]
          refine wpAnyH_ready (rs := [4]) (by kernel_rfl) (by simp) ?_
          refine AllReadyH.cons (by simp only [List.getElem?_toArray, List.getElem?_cons_succ, List.getElem?_cons_zero]; rfl) (fun K hK => ?_) AllReadyH.nil
          try go_simp
          refine (hA2.out _ _ kw45).mono ?_; rintro e wq6 ⟨rfl, q6⟩
          replace kB := kB.trans (q6.mono kB.size)
          replace kd9 := kd9.below q6
          replace kd10 := kd10.below q6
          replace kd11 := kd11.below q6
          replace kd13 := kd13.below q6
          replace kw45 := kw45.below q6
          clear q6
          try go_wp2_with fail
          refine hK.out _ _ ?_ (fun hHeld => ?_)
          · exact ⟨kB, kd10, kd11⟩
          clear hK K
          try simp only [Act.put, List.setIfInBounds_toArray, List.set_cons_zero, List.set_cons_succ]
          refine wpAnyH_take (i := 5) (v := ?_) (by simp only [List.getElem?_toArray, List.getElem?_cons_succ, List.getElem?_cons_zero]; rfl) (by kernel_rfl) (by kernel_rfl) (by kernel_rfl) (fun _ _ _ h => h) (Or.inl ⟨by rfl, ?_⟩) hHeld ?_
          rotate_left
          · intro x hSw; first | (go_simp; done) | (go_simp; with_reducible rfl)
          try simp only [Act.put, List.setIfInBounds_toArray, List.set_cons_zero, List.set_cons_succ]
          refine wpAnyH_take (i := 6) (v := ?_) (by simp only [List.getElem?_toArray, List.getElem?_cons_succ, List.getElem?_cons_zero]; rfl) (by kernel_rfl) (by kernel_rfl) (by kernel_rfl) (fun _ _ _ h => h) (Or.inl ⟨by rfl, ?_⟩) hHeld ?_
          rotate_left
          · intro x hSw; first | (go_simp; done) | (go_simp; with_reducible rfl)
          try simp only [Act.put, List.setIfInBounds_toArray, List.set_cons_zero, List.set_cons_succ]
          refine wpAnyH_take (i := 7) (v := ?_) (by simp only [List.getElem?_toArray, List.getElem?_cons_succ, List.getElem?_cons_zero]; rfl) (by kernel_rfl) (by kernel_rfl) (by kernel_rfl) (fun _ _ _ h => h) (Or.inl ⟨by rfl, ?_⟩) hHeld ?_
          rotate_left
          · intro x hSw; first | (go_simp; done) | (go_simp; with_reducible rfl)
          try simp only [Act.put, List.setIfInBounds_toArray, List.set_cons_zero, List.set_cons_succ]
          refine wpAnyH_ready (rs := [9]) (by kernel_rfl) (by simp) ?_
          refine AllReadyH.cons (by simp only [List.getElem?_toArray, List.getElem?_cons_succ, List.getElem?_cons_zero]; rfl) (fun K hK => ?_) AllReadyH.nil
          have sc0 := kd13.c0; have sc1 := kd13.c1; have sf0 := kd13.f0; have sf1 := kd13.f1
          go_simp
          clear sc0 sc1 sf0 sf1
          replace kB := below_put (g := z13) kB (by omega) (p) (i)
          replace kd9 := kd9.putOther (g := z13) (by omega) (p) (i)
          replace kd10 := kd10.putOther (g := z13) (by omega) (p) (i)
          replace kd11 := kd11.putOther (g := z13) (by omega) (p) (i)
          replace kd13 := kd13.put (p) (i)
          clear kw45
          unfold putDec at kB kd9 kd10 kd11 kd13
          refine hK.out _ _ ?_ (fun hHeld => ?_)
          · exact ⟨kB, kd10, kd11⟩
          clear hK K
          try simp only [Act.put, List.setIfInBounds_toArray, List.set_cons_zero, List.set_cons_succ]
          refine wpAnyH_take (i := 10) (v := ?_) (by simp only [List.getElem?_toArray, List.getElem?_cons_succ, List.getElem?_cons_zero]; rfl) (by kernel_rfl) (by kernel_rfl) (by kernel_rfl) (fun _ _ _ h => h) (Or.inl ⟨by rfl, ?_⟩) hHeld ?_
          rotate_left
          · intro x hSw; first | (go_simp; done) | (go_simp; with_reducible rfl)
          try simp only [Act.put, List.setIfInBounds_toArray, List.set_cons_zero, List.set_cons_succ]
          refine wpAnyH_done (by kernel_rfl) ?_ _
          refine NoPanic.normal ?_
          go_wp2_with fail
          go_meet
          exact ⟨z13, rfl, rfl, kB, kd9, kd10, kd11, kd13⟩
        refine AllReadyH.cons (by simp only [List.getElem?_toArray, List.getElem?_cons_succ, List.getElem?_cons_zero]; rfl) (fun K hK => ?_) AllReadyH.nil
        go_simp
        have kd13 := DecAt.new wq1 0 0
        have hge_z13 := kB.size
        have hne_z13_d9 := kd9.lt
        have hne_z13_d10 := kd10.lt
        have hne_z13_d11 := kd11.lt
        replace kd9 := kd9.alloc (.cells #[.int .i64 0, .int .i64 0] 25)
        replace kd10 := kd10.alloc (.cells #[.int .i64 0, .int .i64 0] 25)
        replace kd11 := kd11.alloc (.cells #[.int .i64 0, .int .i64 0] 25)
        replace kB := kb_alloc kB (Nat.le_refl _) (.cells #[.int .i64 0, .int .i64 0] 25)
        obtain ⟨z13, hcur⟩ : ∃ uu, uu = wq1.heap.size := ⟨_, rfl⟩
        rw [← hcur] at hge_z13 kd13 hne_z13_d9 hne_z13_d10 hne_z13_d11 ⊢
        clear hcur
        obtain ⟨q7, hcur⟩ : ∃ uu, uu = wq1.alloc (.cells #[.int .i64 0, .int .i64 0] 25) := ⟨_, rfl⟩
        rw [← hcur] at kB kd9 kd10 kd11 kd13 ⊢
        clear hcur
        refine hK.out _ _ ?_ (fun hHeld => ?_)
        · exact ⟨kB, kd10, kd11⟩
        clear hK K
        try simp only [Act.put, List.setIfInBounds_toArray, List.set_cons_zero, List.set_cons_succ]
        refine wpAnyH_ready (rs := [3]) (by kernel_rfl) (by simp) ?_
        refine AllReadyH.cons (by simp only [List.getElem?_toArray, List.getElem?_cons_succ, List.getElem?_cons_zero]; rfl) (fun K hK => ?_) AllReadyH.nil
        go_simp
        have kw45 := row2 q7 x1 (x2 : Int) (-q) j
        have hge_bs := kB.size
        have hne_bs_d9 := kd9.lt
        have hne_bs_d10 := kd10.lt
        have hne_bs_d11 := kd11.lt
        have hne_bs_d13 := kd13.lt
        replace kd9 := kd9.alloc (.cells #[.int .i64 x1, .int .i64 (x2 : Int), .int .i64 (-q), .int .i64 j] 25)
        replace kd10 := kd10.alloc (.cells #[.int .i64 x1, .int .i64 (x2 : Int), .int .i64 (-q), .int .i64 j] 25)
        replace kd11 := kd11.alloc (.cells #[.int .i64 x1, .int .i64 (x2 : Int), .int .i64 (-q), .int .i64 j] 25)
        replace kd13 := kd13.alloc (.cells #[.int .i64 x1, .int .i64 (x2 : Int), .int .i64 (-q), .int .i64 j] 25)
        replace kB := kb_alloc kB (Nat.le_refl _) (.cells #[.int .i64 x1, .int .i64 (x2 : Int), .int .i64 (-q), .int .i64 j] 25)
        obtain ⟨bs, hcur⟩ : ∃ uu, uu = q7.heap.size := ⟨_, rfl⟩
        rw [← hcur] at hge_bs kw45 hne_bs_d9 hne_bs_d10 hne_bs_d11 hne_bs_d13 ⊢
        clear hcur
        obtain ⟨q8, hcur⟩ : ∃ uu, uu = q7.alloc (.cells #[.int .i64 x1, .int .i64 (x2 : Int), .int .i64 (-q), .int .i64 j] 25) := ⟨_, rfl⟩
        rw [← hcur] at kB kd9 kd10 kd11 kd13 kw45 ⊢
        clear hcur
        refine hK.out _ _ ?_ (fun hHeld => ?_)
        · exact ⟨kB, kd10, kd11⟩
        clear hK K
        try simp only [Act.put, List.setIfInBounds_toArray, List.set_cons_zero, List.set_cons_succ]
        refine wpAnyH_ready (rs := [4]) (by kernel_rfl) (by simp) ?_
        refine AllReadyH.cons (by simp only [List.getElem?_toArray, List.getElem?_cons_succ, List.getElem?_cons_zero]; rfl) (fun K hK => ?_) AllReadyH.nil
        try go_simp
        refine (hA2.out _ _ kw45).mono ?_; rintro e wq9 ⟨rfl, q9⟩
        replace kB := kB.trans (q9.mono kB.size)
        replace kd9 := kd9.below q9
        replace kd10 := kd10.below q9
        replace kd11 := kd11.below q9
        replace kd13 := kd13.below q9
        replace kw45 := kw45.below q9
        clear q9
        try go_wp2_with fail
        refine hK.out _ _ ?_ (fun hHeld => ?_)
        · exact ⟨kB, kd10, kd11⟩
        clear hK K
        try simp only [Act.put, List.setIfInBounds_toArray, List.set_cons_zero, List.set_cons_succ]
        refine wpAnyH_take (i := 5) (v := ?_) (by simp only [List.getElem?_toArray, List.getElem?_cons_succ, List.getElem?_cons_zero]; rfl) (by kernel_rfl) (by kernel_rfl) (by kernel_rfl) (fun _ _ _ h => h) (Or.inl ⟨by rfl, ?_⟩) hHeld ?_
        rotate_left
        · intro x hSw; first | (go_simp; done) | (go_simp; with_reducible rfl)
        try simp only [Act.put, List.setIfInBounds_toArray, List.set_cons_zero, List.set_cons_succ]
        refine wpAnyH_take (i := 6) (v := ?_) (by simp only [List.getElem?_toArray, List.getElem?_cons_succ, List.getElem?_cons_zero]; rfl) (by kernel_rfl) (by kernel_rfl) (by kernel_rfl) (fun _ _ _ h => h) (Or.inl ⟨by rfl, ?_⟩) hHeld ?_
        rotate_left
        · intro x hSw; first | (go_simp; done) | (go_simp; with_reducible rfl)
        try simp only [Act.put, List.setIfInBounds_toArray, List.set_cons_zero, List.set_cons_succ]
        refine wpAnyH_take (i := 7) (v := ?_) (by simp only [List.getElem?_toArray, List.getElem?_cons_succ, List.getElem?_cons_zero]; rfl) (by kernel_rfl) (by kernel_rfl) (by kernel_rfl) (fun _ _ _ h => h) (Or.inl ⟨by rfl, ?_⟩) hHeld ?_
        rotate_left
        · intro x hSw; first | (go_simp; done) | (go_simp; with_reducible rfl)
        try simp only [Act.put, List.setIfInBounds_toArray, List.set_cons_zero, List.set_cons_succ]
        refine wpAnyH_ready (rs := [9]) (by kernel_rfl) (by simp) ?_
        refine AllReadyH.cons (by simp only [List.getElem?_toArray, List.getElem?_cons_succ, List.getElem?_cons_zero]; rfl) (fun K hK => ?_) AllReadyH.nil
        have sc0 := kd13.c0; have sc1 := kd13.c1; have sf0 := kd13.f0; have sf1 := kd13.f1
        go_simp
        clear sc0 sc1 sf0 sf1
        replace kB := below_put (g := z13) kB (by omega) (p) (i)
        replace kd9 := kd9.putOther (g := z13) (by omega) (p) (i)
        replace kd10 := kd10.putOther (g := z13) (by omega) (p) (i)
        replace kd11 := kd11.putOther (g := z13) (by omega) (p) (i)
        replace kd13 := kd13.put (p) (i)
        clear kw45
        unfold putDec at kB kd9 kd10 kd11 kd13
        refine hK.out _ _ ?_ (fun hHeld => ?_)
        · exact ⟨kB, kd10, kd11⟩
        clear hK K
        try simp only [Act.put, List.setIfInBounds_toArray, List.set_cons_zero, List.set_cons_succ]
        refine wpAnyH_take (i := 10) (v := ?_) (by simp only [List.getElem?_toArray, List.getElem?_cons_succ, List.getElem?_cons_zero]; rfl) (by kernel_rfl) (by kernel_rfl) (by kernel_rfl) (fun _ _ _ h => h) (Or.inl ⟨by rfl, ?_⟩) hHeld ?_
        rotate_left
        · intro x hSw; first | (go_simp; done) | (go_simp; with_reducible rfl)
        try simp only [Act.put, List.setIfInBounds_toArray, List.set_cons_zero, List.set_cons_succ]
        refine wpAnyH_done (by kernel_rfl) ?_ _
        refine NoPanic.normal ?_
        go_wp2_with fail
        go_meet
        exact ⟨z13, rfl, rfl, kB, kd9, kd10, kd11, kd13⟩
      refine AllReadyH.cons (by simp only [List.getElem?_toArray, List.getElem?_cons_succ, List.getElem?_cons_zero]; rfl) (fun K hK => ?_) AllReadyH.nil
      go_simp
      have kd13 := DecAt.new qw 0 0
      have hge_z13 := kB.size
      have hne_z13_d9 := kd9.lt
      have hne_z13_d10 := kd10.lt
      have hne_z13_d11 := kd11.lt
      replace kd9 := kd9.alloc (.cells #[.int .i64 0, .int .i64 0] 25)
      replace kd10 := kd10.alloc (.cells #[.int .i64 0, .int .i64 0] 25)
      replace kd11 := kd11.alloc (.cells #[.int .i64 0, .int .i64 0] 25)
      replace kB := kb_alloc kB (Nat.le_refl _) (.cells #[.int .i64 0, .int .i64 0] 25)
      obtain ⟨z13, hcur⟩ : ∃ uu, uu = qw.heap.size := ⟨_, rfl⟩
      rw [← hcur] at hge_z13 kd13 hne_z13_d9 hne_z13_d10 hne_z13_d11 ⊢
      clear hcur
      obtain ⟨q10, hcur⟩ : ∃ uu, uu = qw.alloc (.cells #[.int .i64 0, .int .i64 0] 25) := ⟨_, rfl⟩
      rw [← hcur] at kB kd9 kd10 kd11 kd13 ⊢
      clear hcur
      refine hK.out _ _ ?_ (fun hHeld => ?_)
      · exact ⟨kB, kd10, kd11⟩
      clear hK K
      try simp only [Act.put, List.setIfInBounds_toArray, List.set_cons_zero, List.set_cons_succ]
      refine wpAnyH_ready (rs := [2]) (by kernel_rfl) (by simp) ?_
      refine AllReadyH.cons (by simp only [List.getElem?_toArray, List.getElem?_cons_succ, List.getElem?_cons_zero]; rfl) (fun K hK => ?_) AllReadyH.nil
      try go_simp
      refine (hN1.out _).mono ?_; rintro e wq11 ⟨rfl, q11⟩
      replace kB := kB.trans (q11.mono kB.size)
      replace kd9 := kd9.below q11
      replace kd10 := kd10.below q11
      replace kd11 := kd11.below q11
      replace kd13 := kd13.below q11
      clear q11
      try go_wp2_with fail
      refine hK.out _ _ ?_ (fun hHeld => ?_)
      · exact ⟨kB, kd10, kd11⟩
      clear hK K
      try simp only [Act.put, List.setIfInBounds_toArray, List.set_cons_zero, List.set_cons_succ]
      refine wpAnyH_ready (rs := [3]) (by kernel_rfl) (by simp) ?_
      refine AllReadyH.cons (by simp only [List.getElem?_toArray, List.getElem?_cons_succ, List.getElem?_cons_zero]; rfl) (fun K hK => ?_) AllReadyH.nil
      go_simp
      have kw45 := row2 wq11 x1 (x2 : Int) (-q) j
      have hge_bs := kB.size
      have hne_bs_d9 := kd9.lt
      have hne_bs_d10 := kd10.lt
      have hne_bs_d11 := kd11.lt
      have hne_bs_d13 := kd13.lt
      replace kd9 := kd9.alloc (.cells #[.int .i64 x1, .int .i64 (x2 : Int), .int .i64 (-q), .int .i64 j] 25)
      replace kd10 := kd10.alloc (.cells #[.int .i64 x1, .int .i64 (x2 : Int), .int .i64 (-q), .int .i64 j] 25)
      replace kd11 := kd11.alloc (.cells #[.int .i64 x1, .int .i64 (x2 : Int), .int .i64 (-q), .int .i64 j] 25)
      replace kd13 := kd13.alloc (.cells #[.int .i64 x1, .int .i64 (x2 : Int), .int .i64 (-q), .int .i64 j] 25)
      replace kB := kb_alloc kB (Nat.le_refl _) (.cells #[.int .i64 x1, .int .i64 (x2 : Int), .int .i64 (-q), .int .i64 j] 25)
      obtain ⟨bs, hcur⟩ : ∃ uu, uu = wq11.heap.size := ⟨_, rfl⟩
      rw [← hcur] at hge_bs kw45 hne_bs_d9 hne_bs_d10 hne_bs_d11 hne_bs_d13 ⊢
      clear hcur
      obtain ⟨q12, hcur⟩ : ∃ uu, uu = wq11.alloc (.cells #[.int .i64 x1, .int .i64 (x2 : Int), .int .i64 (-q), .int .i64 j] 25) := ⟨_, rfl⟩
      rw [← hcur] at kB kd9 kd10 kd11 kd13 kw45 ⊢
      clear hcur
      refine hK.out _ _ ?_ (fun hHeld => ?_)
      · exact ⟨kB, kd10, kd11⟩
      clear hK K
      try simp only [Act.put, List.setIfInBounds_toArray, List.set_cons_zero, List.set_cons_succ]
      refine wpAnyH_ready (rs := [4]) (by kernel_rfl) (by simp) ?_
      refine AllReadyH.cons (by simp only [List.getElem?_toArray, List.getElem?_cons_succ, List.getElem?_cons_zero]; rfl) (fun K hK => ?_) AllReadyH.nil
      try go_simp
      refine (hA2.out _ _ kw45).mono ?_; rintro e wq13 ⟨rfl, q13⟩
      replace kB := kB.trans (q13.mono kB.size)
      replace kd9 := kd9.below q13
      replace kd10 := kd10.below q13
      replace kd11 := kd11.below q13
      replace kd13 := kd13.below q13
      replace kw45 := kw45.below q13
      clear q13
      try go_wp2_with fail
      refine hK.out _ _ ?_ (fun hHeld => ?_)
      · exact ⟨kB, kd10, kd11⟩
      clear hK K
      try simp only [Act.put, List.setIfInBounds_toArray, List.set_cons_zero, List.set_cons_succ]
      refine wpAnyH_take (i := 5) (v := ?_) (by simp only [List.getElem?_toArray, List.getElem?_cons_succ, List.getElem?_cons_zero]; rfl) (by kernel_rfl) (by kernel_rfl) (by kernel_rfl) (fun _ _ _ h => h) (Or.inl ⟨by rfl, ?_⟩) hHeld ?_
      rotate_left
      · intro x hSw; first | (go_simp; done) | (go_simp; with_reducible rfl)
      try simp only [Act.put, List.setIfInBounds_toArray, List.set_cons_zero, List.set_cons_succ]
      refine wpAnyH_take (i := 6) (v := ?_) (by simp only [List.getElem?_toArray, List.getElem?_cons_succ, List.getElem?_cons_zero]; rfl) (by kernel_rfl) (by kernel_rfl) (by kernel_rfl) (fun _ _ _ h => h) (Or.inl ⟨by rfl, ?_⟩) hHeld ?_
      rotate_left
      · intro x hSw; first | (go_simp; done) | (go_simp; with_reducible rfl)
      try simp only [Act.put, List.setIfInBounds_toArray, List.set_cons_zero, List.set_cons_succ]
      refine wpAnyH_take (i := 7) (v := ?_) (by simp only [List.getElem?_toArray, List.getElem?_cons_succ, List.getElem?_cons_zero]; rfl) (by kernel_rfl) (by kernel_rfl) (by kernel_rfl) (fun _ _ _ h => h) (Or.inl ⟨by rfl, ?_⟩) hHeld ?_
      rotate_left
      · intro x hSw; first | (go_simp; done) | (go_simp; with_reducible rfl)
      try simp only [Act.put, List.setIfInBounds_toArray, List.set_cons_zero, List.set_cons_succ]
      refine wpAnyH_ready (rs := [9]) (by kernel_rfl) (by simp) ?_
      refine AllReadyH.cons (by simp only [List.getElem?_toArray, List.getElem?_cons_succ, List.getElem?_cons_zero]; rfl) (fun K hK => ?_) AllReadyH.nil
      have sc0 := kd13.c0; have sc1 := kd13.c1; have sf0 := kd13.f0; have sf1 := kd13.f1
      go_simp
      clear sc0 sc1 sf0 sf1
      replace kB := below_put (g := z13) kB (by omega) (p) (i)
      replace kd9 := kd9.putOther (g := z13) (by omega) (p) (i)
      replace kd10 := kd10.putOther (g := z13) (by omega) (p) (i)
      replace kd11 := kd11.putOther (g := z13) (by omega) (p) (i)
      replace kd13 := kd13.put (p) (i)
      clear kw45
      unfold putDec at kB kd9 kd10 kd11 kd13
      refine hK.out _ _ ?_ (fun hHeld => ?_)
      · exact ⟨kB, kd10, kd11⟩
      clear hK K
      try simp only [Act.put, List.setIfInBounds_toArray, List.set_cons_zero, List.set_cons_succ]
      refine wpAnyH_take (i := 10) (v := ?_) (by simp only [List.getElem?_toArray, List.getElem?_cons_succ, List.getElem?_cons_zero]; rfl) (by kernel_rfl) (by kernel_rfl) (by kernel_rfl) (fun _ _ _ h => h) (Or.inl ⟨by rfl, ?_⟩) hHeld ?_
      rotate_left
      · intro x hSw; first | (go_simp; done) | (go_simp; with_reducible rfl)
      try simp only [Act.put, List.setIfInBounds_toArray, List.set_cons_zero, List.set_cons_succ]
      refine wpAnyH_done (by kernel_rfl) ?_ _
      refine NoPanic.normal ?_
      go_wp2_with fail
      go_meet
      exact ⟨z13, rfl, rfl, kB, kd9, kd10, kd11, kd13⟩
    case rest =>
      clear kB kd9 kd10 kd11
      obtain ⟨z13, rfl, rfl, kB, kd9, kd10, kd11, kd13⟩ := hcut
      have qq := fun W => neq_same p i W
      have c0d13 := kd13.c0; have c1d13 := kd13.c1; have c0d9 := kd9.c0; have c1d9 := kd9.c1
      go_upto_region 9 with (fail)
      clear c0d13 c1d13 c0d9 c1d9
      have c0d9 := kd9.c0; have c1d9 := kd9.c1; have c0d10 := kd10.c0; have c1d10 := kd10.c1
      go_wp2_with fail
      clear c0d9 c1d9 c0d10 c1d10
      refine (hT1.out _).mono ?_; rintro e w7 ⟨rfl, b7⟩
      replace kB := kB.trans (b7.mono kB.size)
      replace kd9 := kd9.below b7
      replace kd10 := kd10.below b7
      replace kd11 := kd11.below b7
      replace kd13 := kd13.below b7
      clear b7
      cases hto : timesO p i q j with
      | none =>
        rw [show normV none = Value.tuple #[dv2 0 0, .bool false] from rfl]
        clear hto
        replace kB := kb_alloc kB (Nat.le_refl _) (.cells #[.int .i64 0, .int .i64 0] 25)
        replace kd9 := kd9.alloc (.cells #[.int .i64 0, .int .i64 0] 25)
        replace kd10 := kd10.alloc (.cells #[.int .i64 0, .int .i64 0] 25)
        replace kd11 := kd11.alloc (.cells #[.int .i64 0, .int .i64 0] 25)
        replace kd13 := kd13.alloc (.cells #[.int .i64 0, .int .i64 0] 25)
        have kd15 := DecAt.new w7 0 0
        have qz := fun W => eql_same 0 0 W
        go_wp2_with fail
        go_ret
        exact ⟨rfl, kB⟩
      | some r =>
        obtain ⟨c, k⟩ := r
        rw [show normV (some (c, k)) = Value.tuple #[dv2 c (k : Int), .bool true] from rfl]
        have gc := (times_back gp gq hto).1
        have hov := Lib.hid ((times_back gp gq hto).2)
        clear hto
        replace kB := kb_alloc kB (Nat.le_refl _) (.cells #[.int .i64 c, .int .i64 (k : Int)] 25)
        replace kd9 := kd9.alloc (.cells #[.int .i64 c, .int .i64 (k : Int)] 25)
        replace kd10 := kd10.alloc (.cells #[.int .i64 c, .int .i64 (k : Int)] 25)
        replace kd11 := kd11.alloc (.cells #[.int .i64 c, .int .i64 (k : Int)] 25)
        replace kd13 := kd13.alloc (.cells #[.int .i64 c, .int .i64 (k : Int)] 25)
        have kd15 := DecAt.new w7 c (k : Int)
        go_upto_region 12 with (fail)
        obtain ⟨W8, hcur⟩ : ∃ uu, uu = w7.alloc (.cells #[.int .i64 c, .int .i64 (k : Int)] 25) := ⟨_, rfl⟩
        rw [← hcur] at kB kd9 kd10 kd11 kd13 kd15 ⊢
        clear hcur
        obtain ⟨z15, hcur⟩ : ∃ uu, uu = w7.heap.size := ⟨_, rfl⟩
        rw [← hcur] at kd15 ⊢
        clear hcur
        by_cases hq0 : q = 0
        · have hqb : (q == 0) = true := by simpa using hq0
          have hqb2 : (q != 0) = false := by simpa using hq0
          have hO1 := Lib.hid (fun W => over_of c (k : Int) q j W _ (overO_zero hq0) gc.lo gc.hi gq.lo gq.hi)
          rw [show normV none = Value.tuple #[dv2 0 0, .bool false] from rfl] at hO1
          clear hq0 hov
          have c0d15 := kd15.c0; have c1d15 := kd15.c1; have c0d10 := kd10.c0; have c1d10 := kd10.c1
          go_wp2_with fail
          clear c0d15 c1d15 c0d10 c1d10
          refine (hO1.out _).mono ?_; rintro e w9 ⟨rfl, b9⟩
          replace kB := kB.trans (b9.mono kB.size)
          replace kd9 := kd9.below b9
          replace kd10 := kd10.below b9
          replace kd11 := kd11.below b9
          replace kd13 := kd13.below b9
          replace kd15 := kd15.below b9
          clear b9
          replace kB := kb_alloc kB (Nat.le_refl _) (.cells #[.int .i64 0, .int .i64 0] 25)
          replace kd9 := kd9.alloc (.cells #[.int .i64 0, .int .i64 0] 25)
          replace kd10 := kd10.alloc (.cells #[.int .i64 0, .int .i64 0] 25)
          replace kd11 := kd11.alloc (.cells #[.int .i64 0, .int .i64 0] 25)
          replace kd13 := kd13.alloc (.cells #[.int .i64 0, .int .i64 0] 25)
          replace kd15 := kd15.alloc (.cells #[.int .i64 0, .int .i64 0] 25)
          have kd17 := DecAt.new w9 0 0
          go_upto_region 13 with (fail)
          obtain ⟨W10, hcur⟩ : ∃ uu, uu = w9.alloc (.cells #[.int .i64 0, .int .i64 0] 25) := ⟨_, rfl⟩
          rw [← hcur] at kB kd9 kd10 kd11 kd13 kd15 kd17 ⊢
          clear hcur
          obtain ⟨z17, hcur⟩ : ∃ uu, uu = w9.heap.size := ⟨_, rfl⟩
          rw [← hcur] at kd17 ⊢
          clear hcur
          have c0d9 := kd9.c0; have c1d9 := kd9.c1
          go_wp2_with fail
          clear c0d9 c1d9
          refine (hO2.out _).mono ?_; rintro e w11 ⟨rfl, b11⟩
          replace kB := kB.trans (b11.mono kB.size)
          replace kd9 := kd9.below b11
          replace kd10 := kd10.below b11
          replace kd11 := kd11.below b11
          replace kd13 := kd13.below b11
          replace kd15 := kd15.below b11
          replace kd17 := kd17.below b11
          clear b11
          replace kB := kb_alloc kB (Nat.le_refl _) (.cells #[.int .i64 0, .int .i64 0] 25)
          replace kd9 := kd9.alloc (.cells #[.int .i64 0, .int .i64 0] 25)
          replace kd10 := kd10.alloc (.cells #[.int .i64 0, .int .i64 0] 25)
          replace kd11 := kd11.alloc (.cells #[.int .i64 0, .int .i64 0] 25)
          replace kd13 := kd13.alloc (.cells #[.int .i64 0, .int .i64 0] 25)
          replace kd15 := kd15.alloc (.cells #[.int .i64 0, .int .i64 0] 25)
          replace kd17 := kd17.alloc (.cells #[.int .i64 0, .int .i64 0] 25)
          have kd19 := DecAt.new w11 0 0
          have c0d10 := kd10.c0; have c1d10 := kd10.c1
          go_wp2_with fail
          clear c0d10 c1d10
          go_ret
          exact ⟨rfl, kB⟩
        · have hqb : (q == 0) = false := by simpa using hq0
          have hqb2 : (q != 0) = true := by simpa using hq0
          have hO1 := Lib.hid (fun W => over_of c (k : Int) q j W _ (hov.out hq0) gc.lo gc.hi gq.lo gq.hi)
          rw [show normV (some (p, i.toNat)) = Value.tuple #[dv2 p ((i.toNat : Nat) : Int), .bool true] from rfl, show ((i.toNat : Nat) : Int) = i by have := gp.s0; omega] at hO1
          clear hq0 hov
          have c0d15 := kd15.c0; have c1d15 := kd15.c1; have c0d10 := kd10.c0; have c1d10 := kd10.c1
          go_wp2_with fail
          clear c0d15 c1d15 c0d10 c1d10
          refine (hO1.out _).mono ?_; rintro e w9 ⟨rfl, b9⟩
          replace kB := kB.trans (b9.mono kB.size)
          replace kd9 := kd9.below b9
          replace kd10 := kd10.below b9
          replace kd11 := kd11.below b9
          replace kd13 := kd13.below b9
          replace kd15 := kd15.below b9
          clear b9
          replace kB := kb_alloc kB (Nat.le_refl _) (.cells #[.int .i64 p, .int .i64 i] 25)
          replace kd9 := kd9.alloc (.cells #[.int .i64 p, .int .i64 i] 25)
          replace kd10 := kd10.alloc (.cells #[.int .i64 p, .int .i64 i] 25)
          replace kd11 := kd11.alloc (.cells #[.int .i64 p, .int .i64 i] 25)
          replace kd13 := kd13.alloc (.cells #[.int .i64 p, .int .i64 i] 25)
          replace kd15 := kd15.alloc (.cells #[.int .i64 p, .int .i64 i] 25)
          have kd17 := DecAt.new w9 p i
          go_upto_region 13 with (fail)
          obtain ⟨W10, hcur⟩ : ∃ uu, uu = w9.alloc (.cells #[.int .i64 p, .int .i64 i] 25) := ⟨_, rfl⟩
          rw [← hcur] at kB kd9 kd10 kd11 kd13 kd15 kd17 ⊢
          clear hcur
          obtain ⟨z17, hcur⟩ : ∃ uu, uu = w9.heap.size := ⟨_, rfl⟩
          rw [← hcur] at kd17 ⊢
          clear hcur
          have c0d9 := kd9.c0; have c1d9 := kd9.c1
          go_wp2_with fail
          clear c0d9 c1d9
          refine (hO2.out _).mono ?_; rintro e w11 ⟨rfl, b11⟩
          replace kB := kB.trans (b11.mono kB.size)
          replace kd9 := kd9.below b11
          replace kd10 := kd10.below b11
          replace kd11 := kd11.below b11
          replace kd13 := kd13.below b11
          replace kd15 := kd15.below b11
          replace kd17 := kd17.below b11
          clear b11
          replace kB := kb_alloc kB (Nat.le_refl _) (.cells #[.int .i64 0, .int .i64 0] 25)
          replace kd9 := kd9.alloc (.cells #[.int .i64 0, .int .i64 0] 25)
          replace kd10 := kd10.alloc (.cells #[.int .i64 0, .int .i64 0] 25)
          replace kd11 := kd11.alloc (.cells #[.int .i64 0, .int .i64 0] 25)
          replace kd13 := kd13.alloc (.cells #[.int .i64 0, .int .i64 0] 25)
          replace kd15 := kd15.alloc (.cells #[.int .i64 0, .int .i64 0] 25)
          replace kd17 := kd17.alloc (.cells #[.int .i64 0, .int .i64 0] 25)
          have kd19 := DecAt.new w11 0 0
          have qp := fun W => eql_same p i W
          have e0 := (kd17).c0; have e1 := (kd17).c1; have e2 := (kd9).c0; have e3 := (kd9).c1
          have c0d10 := kd10.c0; have c1d10 := kd10.c1
          go_wp2_with fail
          clear c0d10 c1d10
          go_ret
          exact ⟨rfl, kB⟩

end Go.Proofs.Ytpciohnnnpgpiaa
