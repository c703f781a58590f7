/- The walk of the laws' known answers. -/
import Derived.Test.YtpciohnnnpgpiaaSumV
import Derived.Test.YtpciohnnnpgpiaaSumW
import Derived.Test.YtpciohnnnpgpiaaSumY
import Derived.Deep.DeepCutAuto
set_option linter.unusedVariables false
set_option linter.unusedSimpArgs false
namespace Go.Proofs.Ytpciohnnnpgpiaa
open Go.RowKit Dc
attribute [local go_sem ↓] Go.wp_at_zero Go.wp_at_succ

theorem eql_dec (a b c d : Int) (W : World) : (binOp .eql 25 (dv2 a b) (dv2 c d)).run Try.prog W = .ok (.bool (decide (a = c ∧ b = d))) W := by
  by_cases h1 : a = c
  · subst h1
    by_cases h2 : b = d
    · subst h2
      go_simp
    · have h2b : (b == d) = false := by simpa using h2
      go_simp
  · have h1b : (a == c) = false := by simpa using h1
    go_simp
theorem dot_of (m s a k : Int) (h : dotO m s = (a, k)) (hm : -9223372036854775808 ≤ m ∧ m ≤ 9223372036854775807) (hs : -9223372036854775808 ≤ s ∧ s ≤ 9223372036854775807) (w : World) :
    Calls Try.prog 21 #[.int .i64 m, .int .i64 s] w fun e w' => e = .returned (dv2 a k) ∧ Below w.heap.size w w' := by
  have := dot_calls m s w hm.1 hm.2 hs.1 hs.2
  rwa [h] at this
theorem add_of (l : List (Int × Int)) (v : Value) (a k : Int) (w : World) (hv : DcRow w v l) (hin : ∀ p ∈ l, -9223372036854775808 ≤ p.1 ∧ p.1 ≤ 9223372036854775807) (h : addL 0 0 l = some (a, k)) :
    Calls Try.prog 9 #[v] w fun e w' => e = .returned (.tuple #[dv2 a k, .bool true]) ∧ Below w.heap.size w w' := by
  have := add_walk l v w hv hin
  rwa [h] at this
theorem over_of (m s n t : Int) (w : World) (o : Option (Int × Nat)) (h : overO m s n t = o) (a : -9223372036854775808 ≤ m) (b : m ≤ 9223372036854775807) (c : -9223372036854775808 ≤ n) (d : n ≤ 9223372036854775807) :
    Calls Try.prog 13 #[dv2 m s, dv2 n t] w fun e w' => e = .returned (normV o) ∧ Below w.heap.size w w' := by
  rw [← h]; exact over_walk m s n t w a b c d
theorem times_of (m s n t : Int) (w : World) (o : Option (Int × Nat)) (h : timesO m s n t = o) (a : -9223372036854775808 ≤ m) (b : m ≤ 9223372036854775807) (c : -9223372036854775808 ≤ n) (d : n ≤ 9223372036854775807) :
    Calls Try.prog 11 #[dv2 m s, dv2 n t] w fun e w' => e = .returned (normV o) ∧ Below w.heap.size w w' := by
  rw [← h]; exact times_walk m s n t w a b c d
theorem scaled_of (m s k : Int) (w : World) (o : Option Int) (h : scaledO m s k = o) (a : -9223372036854775808 ≤ m) (b : m ≤ 9223372036854775807) :
    Calls Try.prog 15 #[dv2 m s, .int .i64 k] w fun e w' => e = .returned (scaledV o) ∧ Below w.heap.size w w' := by
  rw [← h]; exact scaled_walk m s k w a b
theorem cmp_of (m s n t : Int) (w : World) (o : Int) (h : cmpO m s n t = o) (a : -9223372036854775808 ≤ m) (b : m ≤ 9223372036854775807) (c : -9223372036854775808 ≤ n) (d : n ≤ 9223372036854775807) :
    Calls Try.prog 17 #[dv2 m s, dv2 n t] w fun e w' => e = .returned (.int .i64 o) ∧ Below w.heap.size w w' := by
  rw [← h]; exact compare_walk m s n t w a b c d
theorem neg_of (m s : Int) (w : World) (a k : Int) (h : (-(orZ m s).1, (orZ m s).2) = (a, k)) (c : -9223372036854775808 ≤ m) (d : m ≤ 9223372036854775807) :
    Calls Try.prog 19 #[dv2 m s] w fun e w' => e = .returned (dv2 a k) ∧ Below w.heap.size w w' := by
  have h2 := neg_walk m s w c d
  unfold negO at h2
  rw [Prod.mk.injEq] at h
  rwa [h.1, h.2] at h2
theorem row0 (w : World) : DcRow w (.slice none 0 0) [] := ⟨none, 0, rfl, Nat.le_refl _, by unfold maxLen; omega, fun h => absurd h (by simp)⟩
theorem row3 (w : World) : DcRow (w.alloc (.cells #[.int .i64 15, .int .i64 1, .int .i64 (-25), .int .i64 2, .int .i64 1, .int .i64 0] 25)) (.slice (some ⟨w.heap.size, 0, none⟩) 3 3) [(15, 1), (-25, 2), (1, 0)] := by
  refine ⟨_, 3, rfl, Nat.le_refl _, by unfold maxLen; omega, fun _ => ⟨_, 0, rfl, by simp, fun i p hp => ?_⟩⟩
  match i, hp with
  | 0, hp => simp at hp; subst hp; exact ⟨by simp [go_sem], by simp [go_sem]⟩
  | 1, hp => simp at hp; subst hp; exact ⟨by simp [go_sem], by simp [go_sem]⟩
  | 2, hp => simp at hp; subst hp; exact ⟨by simp [go_sem], by simp [go_sem]⟩
  | i + 3, hp => simp at hp

set_option maxRecDepth 100000 in
set_option maxHeartbeats 8000000 in
theorem known_calls (w : World) :
    Calls Try.prog 8 #[] w fun e w' => e = .returned (.bool true) ∧ Below w.heap.size w w' := by
  have kB := Below.refl w.heap.size w
  go_enter Try.func8, Try.ntmps8
  go_wp2_with fail
  refine (dot_of (15) 1 (15) 1 (by decide) (by decide) (by decide) _).mono ?_; rintro e w1 ⟨rfl, b1⟩
  replace kB := kB.trans (b1.mono kB.size)
  clear b1
  go_wp2_with fail
  refine (dot_of (-25) 2 (-25) 2 (by decide) (by decide) (by decide) _).mono ?_; rintro e w2 ⟨rfl, b2⟩
  replace kB := kB.trans (b2.mono kB.size)
  clear b2
  go_wp2_with fail
  refine (dot_of (1) 0 (1) 0 (by decide) (by decide) (by decide) _).mono ?_; rintro e w3 ⟨rfl, b3⟩
  replace kB := kB.trans (b3.mono kB.size)
  clear b3
  have hrow := row3 w3
  replace kB := kb_alloc kB (Nat.le_refl _) (.cells #[.int .i64 15, .int .i64 1, .int .i64 (-25), .int .i64 2, .int .i64 1, .int .i64 0] 25)
  go_wp2_with fail
  refine (add_of [(15, 1), (-25, 2), (1, 0)] _ 225 2 _ hrow (by decide) (by decide)).mono ?_; rintro e w4 ⟨rfl, b4⟩
  replace kB := kB.trans (b4.mono kB.size)
  clear b4
  clear hrow
  replace kB := kb_alloc kB (Nat.le_refl _) (.cells #[.int .i64 (225), .int .i64 2] 25)
  have kd1 := DecAt.new w4 (225) 2
  go_wp2_with fail
  obtain ⟨W5, hcur⟩ : ∃ uu, uu = w4.alloc (.cells #[.int .i64 (225), .int .i64 2] 25) := ⟨_, rfl⟩
  rw [← hcur] at kB kd1 ⊢
  clear hcur
  obtain ⟨z1, hcur⟩ : ∃ uu, uu = w4.heap.size := ⟨_, rfl⟩
  rw [← hcur] at kd1 ⊢
  clear hcur
  refine (dot_of (1) 0 (1) 0 (by decide) (by decide) (by decide) _).mono ?_; rintro e w6 ⟨rfl, b6⟩
  replace kB := kB.trans (b6.mono kB.size)
  replace kd1 := kd1.below b6
  clear b6
  go_wp2_with fail
  refine (dot_of (8) 0 (8) 0 (by decide) (by decide) (by decide) _).mono ?_; rintro e w7 ⟨rfl, b7⟩
  replace kB := kB.trans (b7.mono kB.size)
  replace kd1 := kd1.below b7
  clear b7
  go_wp2_with fail
  refine (over_of 1 0 8 0 _ (some (125, 3)) (by decide) (by decide) (by decide) (by decide) (by decide)).mono ?_; rintro e w8 ⟨rfl, b8⟩
  replace kB := kB.trans (b8.mono kB.size)
  replace kd1 := kd1.below b8
  clear b8
  rw [show normV (some (125, 3)) = Value.tuple #[dv2 125 3, .bool true] from rfl]
  replace kB := kb_alloc kB (Nat.le_refl _) (.cells #[.int .i64 (125), .int .i64 3] 25)
  replace kd1 := kd1.alloc (.cells #[.int .i64 (125), .int .i64 3] 25)
  have kd3 := DecAt.new w8 (125) 3
  go_wp2_with fail
  obtain ⟨W9, hcur⟩ : ∃ uu, uu = w8.alloc (.cells #[.int .i64 (125), .int .i64 3] 25) := ⟨_, rfl⟩
  rw [← hcur] at kB kd1 kd3 ⊢
  clear hcur
  obtain ⟨z3, hcur⟩ : ∃ uu, uu = w8.heap.size := ⟨_, rfl⟩
  rw [← hcur] at kd3 ⊢
  clear hcur
  refine (dot_of (1) 0 (1) 0 (by decide) (by decide) (by decide) _).mono ?_; rintro e w10 ⟨rfl, b10⟩
  replace kB := kB.trans (b10.mono kB.size)
  replace kd1 := kd1.below b10
  replace kd3 := kd3.below b10
  clear b10
  go_wp2_with fail
  refine (dot_of (3) 0 (3) 0 (by decide) (by decide) (by decide) _).mono ?_; rintro e w11 ⟨rfl, b11⟩
  replace kB := kB.trans (b11.mono kB.size)
  replace kd1 := kd1.below b11
  replace kd3 := kd3.below b11
  clear b11
  go_wp2_with fail
  refine (over_of 1 0 3 0 _ none (by decide) (by decide) (by decide) (by decide) (by decide)).mono ?_; rintro e w12 ⟨rfl, b12⟩
  replace kB := kB.trans (b12.mono kB.size)
  replace kd1 := kd1.below b12
  replace kd3 := kd3.below b12
  clear b12
  rw [show normV none = Value.tuple #[dv2 0 0, .bool false] from rfl]
  replace kB := kb_alloc kB (Nat.le_refl _) (.cells #[.int .i64 (0), .int .i64 0] 25)
  replace kd1 := kd1.alloc (.cells #[.int .i64 (0), .int .i64 0] 25)
  replace kd3 := kd3.alloc (.cells #[.int .i64 (0), .int .i64 0] 25)
  have kd5 := DecAt.new w12 (0) 0
  go_wp2_with fail
  obtain ⟨W13, hcur⟩ : ∃ uu, uu = w12.alloc (.cells #[.int .i64 (0), .int .i64 0] 25) := ⟨_, rfl⟩
  rw [← hcur] at kB kd1 kd3 kd5 ⊢
  clear hcur
  obtain ⟨z5, hcur⟩ : ∃ uu, uu = w12.heap.size := ⟨_, rfl⟩
  rw [← hcur] at kd5 ⊢
  clear hcur
  refine (dot_of (25) 1 (25) 1 (by decide) (by decide) (by decide) _).mono ?_; rintro e w14 ⟨rfl, b14⟩
  replace kB := kB.trans (b14.mono kB.size)
  replace kd1 := kd1.below b14
  replace kd3 := kd3.below b14
  replace kd5 := kd5.below b14
  clear b14
  go_wp2_with fail
  refine (dot_of (4) 1 (4) 1 (by decide) (by decide) (by decide) _).mono ?_; rintro e w15 ⟨rfl, b15⟩
  replace kB := kB.trans (b15.mono kB.size)
  replace kd1 := kd1.below b15
  replace kd3 := kd3.below b15
  replace kd5 := kd5.below b15
  clear b15
  go_wp2_with fail
  refine (times_of 25 1 4 1 _ (some (1, 0)) (by decide) (by decide) (by decide) (by decide) (by decide)).mono ?_; rintro e w16 ⟨rfl, b16⟩
  replace kB := kB.trans (b16.mono kB.size)
  replace kd1 := kd1.below b16
  replace kd3 := kd3.below b16
  replace kd5 := kd5.below b16
  clear b16
  rw [show normV (some (1, 0)) = Value.tuple #[dv2 1 0, .bool true] from rfl]
  replace kB := kb_alloc kB (Nat.le_refl _) (.cells #[.int .i64 (1), .int .i64 0] 25)
  replace kd1 := kd1.alloc (.cells #[.int .i64 (1), .int .i64 0] 25)
  replace kd3 := kd3.alloc (.cells #[.int .i64 (1), .int .i64 0] 25)
  replace kd5 := kd5.alloc (.cells #[.int .i64 (1), .int .i64 0] 25)
  have kd7 := DecAt.new w16 (1) 0
  go_wp2_with fail
  obtain ⟨W17, hcur⟩ : ∃ uu, uu = w16.alloc (.cells #[.int .i64 (1), .int .i64 0] 25) := ⟨_, rfl⟩
  rw [← hcur] at kB kd1 kd3 kd5 kd7 ⊢
  clear hcur
  obtain ⟨z7, hcur⟩ : ∃ uu, uu = w16.heap.size := ⟨_, rfl⟩
  rw [← hcur] at kd7 ⊢
  clear hcur
  refine (dot_of (15) 1 (15) 1 (by decide) (by decide) (by decide) _).mono ?_; rintro e w18 ⟨rfl, b18⟩
  replace kB := kB.trans (b18.mono kB.size)
  replace kd1 := kd1.below b18
  replace kd3 := kd3.below b18
  replace kd5 := kd5.below b18
  replace kd7 := kd7.below b18
  clear b18
  go_wp2_with fail
  refine (scaled_of 15 1 3 _ (some 1500) (by decide) (by decide) (by decide)).mono ?_; rintro e w19 ⟨rfl, b19⟩
  replace kB := kB.trans (b19.mono kB.size)
  replace kd1 := kd1.below b19
  replace kd3 := kd3.below b19
  replace kd5 := kd5.below b19
  replace kd7 := kd7.below b19
  clear b19
  rw [show scaledV (some 1500) = Value.tuple #[.int .i64 1500, .bool true] from rfl]
  go_wp2_with fail
  refine (dot_of (15) 1 (15) 1 (by decide) (by decide) (by decide) _).mono ?_; rintro e w20 ⟨rfl, b20⟩
  replace kB := kB.trans (b20.mono kB.size)
  replace kd1 := kd1.below b20
  replace kd3 := kd3.below b20
  replace kd5 := kd5.below b20
  replace kd7 := kd7.below b20
  clear b20
  go_wp2_with fail
  refine (scaled_of 15 1 0 _ none (by decide) (by decide) (by decide)).mono ?_; rintro e w21 ⟨rfl, b21⟩
  replace kB := kB.trans (b21.mono kB.size)
  replace kd1 := kd1.below b21
  replace kd3 := kd3.below b21
  replace kd5 := kd5.below b21
  replace kd7 := kd7.below b21
  clear b21
  rw [show scaledV none = Value.tuple #[.int .i64 0, .bool false] from rfl]
  go_wp2_with fail
  refine (add_of [] _ 0 0 _ (row0 _) (by decide) (by decide)).mono ?_; rintro e w22 ⟨rfl, b22⟩
  replace kB := kB.trans (b22.mono kB.size)
  replace kd1 := kd1.below b22
  replace kd3 := kd3.below b22
  replace kd5 := kd5.below b22
  replace kd7 := kd7.below b22
  clear b22
  replace kB := kb_alloc kB (Nat.le_refl _) (.cells #[.int .i64 (0), .int .i64 0] 25)
  replace kd1 := kd1.alloc (.cells #[.int .i64 (0), .int .i64 0] 25)
  replace kd3 := kd3.alloc (.cells #[.int .i64 (0), .int .i64 0] 25)
  replace kd5 := kd5.alloc (.cells #[.int .i64 (0), .int .i64 0] 25)
  replace kd7 := kd7.alloc (.cells #[.int .i64 (0), .int .i64 0] 25)
  have kd13 := DecAt.new w22 (0) 0
  go_upto_region 8 with (fail)
  obtain ⟨WK, hcur⟩ : ∃ uu, uu = w22.alloc (.cells #[.int .i64 (0), .int .i64 0] 25) := ⟨_, rfl⟩
  rw [← hcur] at kB kd1 kd3 kd5 kd7 kd13 ⊢
  clear hcur
  obtain ⟨z13, hcur⟩ : ∃ uu, uu = w22.heap.size := ⟨_, rfl⟩
  rw [← hcur] at kd13 ⊢
  clear hcur
  clear kd5
  have q0q := fun W => eql_dec (225) 2 (225) 2 W
  rw [show decide ((225 : Int) = 225 ∧ (2 : Int) = 2) = true from rfl] at q0q
  have q1q := fun W => eql_dec (125) 3 (125) 3 W
  rw [show decide ((125 : Int) = 125 ∧ (3 : Int) = 3) = true from rfl] at q1q
  have q2q := fun W => eql_dec (1) 0 (1) 0 W
  rw [show decide ((1 : Int) = 1 ∧ (0 : Int) = 0) = true from rfl] at q2q
  have q3q := fun W => eql_dec (0) 0 (0) 0 W
  rw [show decide ((0 : Int) = 0 ∧ (0 : Int) = 0) = true from rfl] at q3q
  have q4q := fun W => eql_dec (-5) 1 (-5) 1 W
  rw [show decide ((-5 : Int) = -5 ∧ (1 : Int) = 1) = true from rfl] at q4q
  refine wp_region_noPanic ?_
  refine wp_region_held_drew (S := fun X => Below w.heap.size w X ∧ DecAt X z1 225 2 ∧ DecAt X z3 125 3 ∧ DecAt X z7 1 0 ∧ DecAt X z13 0 0) (by kernel_rfl) ?_ (fun hHeld => ?_)
  · exact ⟨Below.drew kB, DecAt.drew kd1, DecAt.drew kd3, DecAt.drew kd7, DecAt.drew kd13⟩
  replace kB := Below.drew kB
  replace kd1 := DecAt.drew kd1
  replace kd3 := DecAt.drew kd3
  replace kd7 := DecAt.drew kd7
  replace kd13 := DecAt.drew kd13
  obtain ⟨qw, hcur⟩ : ∃ uu, uu = WK.drew := ⟨_, rfl⟩
  rw [← hcur] at hHeld kB kd1 kd3 kd7 kd13 ⊢
  clear hcur
  refine wpAnyH_take (i := 0) (v := ?_) (by simp only [List.getElem?_toArray, List.getElem?_cons_succ, List.getElem?_cons_zero]; rfl) (by kernel_rfl) (by kernel_rfl) (by kernel_rfl) (fun _ _ _ h => h) (Or.inl ⟨by rfl, ?_⟩) hHeld ?_
  rotate_left
  · intro x hSw; (try dsimp only at hSw); obtain ⟨_, hd1, hd3, hd7, hd13⟩ := hSw; have c0d1 := hd1.c0; have c1d1 := hd1.c1; have c0d3 := hd3.c0; have c1d3 := hd3.c1; have c0d7 := hd7.c0; have c1d7 := hd7.c1; have c0d13 := hd13.c0; have c1d13 := hd13.c1; first | (go_simp; done) | (go_simp; with_reducible rfl)
  try simp only [Act.put, List.setIfInBounds_toArray, List.set_cons_zero, List.set_cons_succ]
  refine wpAnyH_ready (rs := [1]) (by kernel_rfl) (by simp) ?_
  refine AllReadyH.cons (by simp only [List.getElem?_toArray, List.getElem?_cons_succ, List.getElem?_cons_zero]; rfl) (fun K hK => ?_) AllReadyH.nil
  try go_simp
  refine (dot_of (225) 2 (225) 2 (by decide) (by decide) (by decide) _).mono ?_; rintro e wq1 ⟨rfl, q1⟩
  replace kB := kB.trans (q1.mono kB.size)
  replace kd1 := kd1.below q1
  replace kd3 := kd3.below q1
  replace kd7 := kd7.below q1
  replace kd13 := kd13.below q1
  clear q1
  try go_wp2_with fail
  refine hK.out _ _ ?_ (fun hHeld => ?_)
  · exact ⟨kB, kd1, kd3, kd7, kd13⟩
  clear hK K
  try simp only [Act.put, List.setIfInBounds_toArray, List.set_cons_zero, List.set_cons_succ]
  refine wpAnyH_take (i := 2) (v := ?_) (by simp only [List.getElem?_toArray, List.getElem?_cons_succ, List.getElem?_cons_zero]; rfl) (by kernel_rfl) (by kernel_rfl) (by kernel_rfl) (fun _ _ _ h => h) (Or.inl ⟨by rfl, ?_⟩) hHeld ?_
  rotate_left
  · intro x hSw; first | (go_simp; done) | (go_simp; with_reducible rfl)
  try simp only [Act.put, List.setIfInBounds_toArray, List.set_cons_zero, List.set_cons_succ]
  refine wpAnyH_take (i := 3) (v := ?_) (by simp only [List.getElem?_toArray, List.getElem?_cons_succ, List.getElem?_cons_zero]; rfl) (by kernel_rfl) (by kernel_rfl) (by kernel_rfl) (fun _ _ _ h => h) (Or.inl ⟨by rfl, ?_⟩) hHeld ?_
  rotate_left
  · intro x hSw; first | (go_simp; done) | (go_simp; with_reducible rfl)
  try simp only [Act.put, List.setIfInBounds_toArray, List.set_cons_zero, List.set_cons_succ]
  refine wpAnyH_take (i := 4) (v := ?_) (by simp only [List.getElem?_toArray, List.getElem?_cons_succ, List.getElem?_cons_zero]; rfl) (by kernel_rfl) (by kernel_rfl) (by kernel_rfl) (fun _ _ _ h => h) (Or.inl ⟨by rfl, ?_⟩) hHeld ?_
  rotate_left
  · intro x hSw; first | (go_simp; done) | (go_simp; with_reducible rfl)
  try simp only [Act.put, List.setIfInBounds_toArray, List.set_cons_zero, List.set_cons_succ]
  refine wpAnyH_take (i := 5) (v := ?_) (by simp only [List.getElem?_toArray, List.getElem?_cons_succ, List.getElem?_cons_zero]; rfl) (by kernel_rfl) (by kernel_rfl) (by kernel_rfl) (fun _ _ _ h => h) (Or.inl ⟨by rfl, ?_⟩) hHeld ?_
  rotate_left
  · intro x hSw; first | (go_simp; done) | (go_simp; with_reducible rfl)
  try simp only [Act.put, List.setIfInBounds_toArray, List.set_cons_zero, List.set_cons_succ]
  refine wpAnyH_take (i := 6) (v := ?_) (by simp only [List.getElem?_toArray, List.getElem?_cons_succ, List.getElem?_cons_zero]; rfl) (by kernel_rfl) (by kernel_rfl) (by kernel_rfl) (fun _ _ _ h => h) (Or.inl ⟨by rfl, ?_⟩) hHeld ?_
  rotate_left
  · intro x hSw; first | (go_simp; done) | (go_simp; with_reducible rfl)
  try simp only [Act.put, List.setIfInBounds_toArray, List.set_cons_zero, List.set_cons_succ]
  refine wpAnyH_take (i := 7) (v := ?_) (by simp only [List.getElem?_toArray, List.getElem?_cons_succ, List.getElem?_cons_zero]; rfl) (by kernel_rfl) (by kernel_rfl) (by kernel_rfl) (fun _ _ _ h => h) (Or.inl ⟨by rfl, ?_⟩) hHeld ?_
  rotate_left
  · intro x hSw; (try dsimp only at hSw); obtain ⟨_, hd1, hd3, hd7, hd13⟩ := hSw; have c0d1 := hd1.c0; have c1d1 := hd1.c1; have c0d3 := hd3.c0; have c1d3 := hd3.c1; have c0d7 := hd7.c0; have c1d7 := hd7.c1; have c0d13 := hd13.c0; have c1d13 := hd13.c1; first | (go_simp; done) | (go_simp; with_reducible rfl)
  try simp only [Act.put, List.setIfInBounds_toArray, List.set_cons_zero, List.set_cons_succ]
  refine wpAnyH_ready (rs := [8]) (by kernel_rfl) (by simp) ?_
  refine AllReadyH.cons (by simp only [List.getElem?_toArray, List.getElem?_cons_succ, List.getElem?_cons_zero]; rfl) (fun K hK => ?_) AllReadyH.nil
  try go_simp
  refine (dot_of (125) 3 (125) 3 (by decide) (by decide) (by decide) _).mono ?_; rintro e wq2 ⟨rfl, q2⟩
  replace kB := kB.trans (q2.mono kB.size)
  replace kd1 := kd1.below q2
  replace kd3 := kd3.below q2
  replace kd7 := kd7.below q2
  replace kd13 := kd13.below q2
  clear q2
  try go_wp2_with fail
  refine hK.out _ _ ?_ (fun hHeld => ?_)
  · exact ⟨kB, kd1, kd3, kd7, kd13⟩
  clear hK K
  try simp only [Act.put, List.setIfInBounds_toArray, List.set_cons_zero, List.set_cons_succ]
  refine wpAnyH_take (i := 9) (v := ?_) (by simp only [List.getElem?_toArray, List.getElem?_cons_succ, List.getElem?_cons_zero]; rfl) (by kernel_rfl) (by kernel_rfl) (by kernel_rfl) (fun _ _ _ h => h) (Or.inl ⟨by rfl, ?_⟩) hHeld ?_
  rotate_left
  · intro x hSw; first | (go_simp; done) | (go_simp; with_reducible rfl)
  try simp only [Act.put, List.setIfInBounds_toArray, List.set_cons_zero, List.set_cons_succ]
  refine wpAnyH_take (i := 10) (v := ?_) (by simp only [List.getElem?_toArray, List.getElem?_cons_succ, List.getElem?_cons_zero]; rfl) (by kernel_rfl) (by kernel_rfl) (by kernel_rfl) (fun _ _ _ h => h) (Or.inl ⟨by rfl, ?_⟩) hHeld ?_
  rotate_left
  · intro x hSw; first | (go_simp; done) | (go_simp; with_reducible rfl)
  try simp only [Act.put, List.setIfInBounds_toArray, List.set_cons_zero, List.set_cons_succ]
  refine wpAnyH_take (i := 11) (v := ?_) (by simp only [List.getElem?_toArray, List.getElem?_cons_succ, List.getElem?_cons_zero]; rfl) (by kernel_rfl) (by kernel_rfl) (by kernel_rfl) (fun _ _ _ h => h) (Or.inl ⟨by rfl, ?_⟩) hHeld ?_
  rotate_left
  · intro x hSw; first | (go_simp; done) | (go_simp; with_reducible rfl)
  try simp only [Act.put, List.setIfInBounds_toArray, List.set_cons_zero, List.set_cons_succ]
  refine wpAnyH_take (i := 12) (v := ?_) (by simp only [List.getElem?_toArray, List.getElem?_cons_succ, List.getElem?_cons_zero]; rfl) (by kernel_rfl) (by kernel_rfl) (by kernel_rfl) (fun _ _ _ h => h) (Or.inl ⟨by rfl, ?_⟩) hHeld ?_
  rotate_left
  · intro x hSw; first | (go_simp; done) | (go_simp; with_reducible rfl)
  try simp only [Act.put, List.setIfInBounds_toArray, List.set_cons_zero, List.set_cons_succ]
  refine wpAnyH_take (i := 13) (v := ?_) (by simp only [List.getElem?_toArray, List.getElem?_cons_succ, List.getElem?_cons_zero]; rfl) (by kernel_rfl) (by kernel_rfl) (by kernel_rfl) (fun _ _ _ h => h) (Or.inl ⟨by rfl, ?_⟩) hHeld ?_
  rotate_left
  · intro x hSw; first | (go_simp; done) | (go_simp; with_reducible rfl)
  try simp only [Act.put, List.setIfInBounds_toArray, List.set_cons_zero, List.set_cons_succ]
  refine wpAnyH_take (i := 14) (v := ?_) (by simp only [List.getElem?_toArray, List.getElem?_cons_succ, List.getElem?_cons_zero]; rfl) (by kernel_rfl) (by kernel_rfl) (by kernel_rfl) (fun _ _ _ h => h) (Or.inl ⟨by rfl, ?_⟩) hHeld ?_
  rotate_left
  · intro x hSw; first | (go_simp; done) | (go_simp; with_reducible rfl)
  try simp only [Act.put, List.setIfInBounds_toArray, List.set_cons_zero, List.set_cons_succ]
  refine wpAnyH_take (i := 15) (v := ?_) (by simp only [List.getElem?_toArray, List.getElem?_cons_succ, List.getElem?_cons_zero]; rfl) (by kernel_rfl) (by kernel_rfl) (by kernel_rfl) (fun _ _ _ h => h) (Or.inl ⟨by rfl, ?_⟩) hHeld ?_
  rotate_left
  · intro x hSw; first | (go_simp; done) | (go_simp; with_reducible rfl)
  try simp only [Act.put, List.setIfInBounds_toArray, List.set_cons_zero, List.set_cons_succ]
  refine wpAnyH_take (i := 16) (v := ?_) (by simp only [List.getElem?_toArray, List.getElem?_cons_succ, List.getElem?_cons_zero]; rfl) (by kernel_rfl) (by kernel_rfl) (by kernel_rfl) (fun _ _ _ h => h) (Or.inl ⟨by rfl, ?_⟩) hHeld ?_
  rotate_left
  · intro x hSw; first | (go_simp; done) | (go_simp; with_reducible rfl)
  try simp only [Act.put, List.setIfInBounds_toArray, List.set_cons_zero, List.set_cons_succ]
  refine wpAnyH_take (i := 17) (v := ?_) (by simp only [List.getElem?_toArray, List.getElem?_cons_succ, List.getElem?_cons_zero]; rfl) (by kernel_rfl) (by kernel_rfl) (by kernel_rfl) (fun _ _ _ h => h) (Or.inl ⟨by rfl, ?_⟩) hHeld ?_
  rotate_left
  · intro x hSw; first | (go_simp; done) | (go_simp; with_reducible rfl)
  try simp only [Act.put, List.setIfInBounds_toArray, List.set_cons_zero, List.set_cons_succ]
  refine wpAnyH_take (i := 18) (v := ?_) (by simp only [List.getElem?_toArray, List.getElem?_cons_succ, List.getElem?_cons_zero]; rfl) (by kernel_rfl) (by kernel_rfl) (by kernel_rfl) (fun _ _ _ h => h) (Or.inl ⟨by rfl, ?_⟩) hHeld ?_
  rotate_left
  · intro x hSw; first | (go_simp; done) | (go_simp; with_reducible rfl)
  try simp only [Act.put, List.setIfInBounds_toArray, List.set_cons_zero, List.set_cons_succ]
  refine wpAnyH_take (i := 19) (v := ?_) (by simp only [List.getElem?_toArray, List.getElem?_cons_succ, List.getElem?_cons_zero]; rfl) (by kernel_rfl) (by kernel_rfl) (by kernel_rfl) (fun _ _ _ h => h) (Or.inl ⟨by rfl, ?_⟩) hHeld ?_
  rotate_left
  · intro x hSw; (try dsimp only at hSw); obtain ⟨_, hd1, hd3, hd7, hd13⟩ := hSw; have c0d1 := hd1.c0; have c1d1 := hd1.c1; have c0d3 := hd3.c0; have c1d3 := hd3.c1; have c0d7 := hd7.c0; have c1d7 := hd7.c1; have c0d13 := hd13.c0; have c1d13 := hd13.c1; first | (go_simp; done) | (go_simp; with_reducible rfl)
  try simp only [Act.put, List.setIfInBounds_toArray, List.set_cons_zero, List.set_cons_succ]
  refine wpAnyH_ready (rs := [20]) (by kernel_rfl) (by simp) ?_
  refine AllReadyH.cons (by simp only [List.getElem?_toArray, List.getElem?_cons_succ, List.getElem?_cons_zero]; rfl) (fun K hK => ?_) AllReadyH.nil
  try go_simp
  refine (dot_of (1) 0 (1) 0 (by decide) (by decide) (by decide) _).mono ?_; rintro e wq3 ⟨rfl, q3⟩
  replace kB := kB.trans (q3.mono kB.size)
  replace kd1 := kd1.below q3
  replace kd3 := kd3.below q3
  replace kd7 := kd7.below q3
  replace kd13 := kd13.below q3
  clear q3
  try go_wp2_with fail
  refine hK.out _ _ ?_ (fun hHeld => ?_)
  · exact ⟨kB, kd1, kd3, kd7, kd13⟩
  clear hK K
  try simp only [Act.put, List.setIfInBounds_toArray, List.set_cons_zero, List.set_cons_succ]
  refine wpAnyH_take (i := 21) (v := ?_) (by simp only [List.getElem?_toArray, List.getElem?_cons_succ, List.getElem?_cons_zero]; rfl) (by kernel_rfl) (by kernel_rfl) (by kernel_rfl) (fun _ _ _ h => h) (Or.inl ⟨by rfl, ?_⟩) hHeld ?_
  rotate_left
  · intro x hSw; first | (go_simp; done) | (go_simp; with_reducible rfl)
  try simp only [Act.put, List.setIfInBounds_toArray, List.set_cons_zero, List.set_cons_succ]
  refine wpAnyH_take (i := 22) (v := ?_) (by simp only [List.getElem?_toArray, List.getElem?_cons_succ, List.getElem?_cons_zero]; rfl) (by kernel_rfl) (by kernel_rfl) (by kernel_rfl) (fun _ _ _ h => h) (Or.inl ⟨by rfl, ?_⟩) hHeld ?_
  rotate_left
  · intro x hSw; first | (go_simp; done) | (go_simp; with_reducible rfl)
  try simp only [Act.put, List.setIfInBounds_toArray, List.set_cons_zero, List.set_cons_succ]
  refine wpAnyH_take (i := 23) (v := ?_) (by simp only [List.getElem?_toArray, List.getElem?_cons_succ, List.getElem?_cons_zero]; rfl) (by kernel_rfl) (by kernel_rfl) (by kernel_rfl) (fun _ _ _ h => h) (Or.inl ⟨by rfl, ?_⟩) hHeld ?_
  rotate_left
  · intro x hSw; first | (go_simp; done) | (go_simp; with_reducible rfl)
  try simp only [Act.put, List.setIfInBounds_toArray, List.set_cons_zero, List.set_cons_succ]
  refine wpAnyH_take (i := 24) (v := ?_) (by simp only [List.getElem?_toArray, List.getElem?_cons_succ, List.getElem?_cons_zero]; rfl) (by kernel_rfl) (by kernel_rfl) (by kernel_rfl) (fun _ _ _ h => h) (Or.inl ⟨by rfl, ?_⟩) hHeld ?_
  rotate_left
  · intro x hSw; first | (go_simp; done) | (go_simp; with_reducible rfl)
  try simp only [Act.put, List.setIfInBounds_toArray, List.set_cons_zero, List.set_cons_succ]
  refine wpAnyH_take (i := 25) (v := ?_) (by simp only [List.getElem?_toArray, List.getElem?_cons_succ, List.getElem?_cons_zero]; rfl) (by kernel_rfl) (by kernel_rfl) (by kernel_rfl) (fun _ _ _ h => h) (Or.inl ⟨by rfl, ?_⟩) hHeld ?_
  rotate_left
  · intro x hSw; first | (go_simp; done) | (go_simp; with_reducible rfl)
  try simp only [Act.put, List.setIfInBounds_toArray, List.set_cons_zero, List.set_cons_succ]
  refine wpAnyH_take (i := 26) (v := ?_) (by simp only [List.getElem?_toArray, List.getElem?_cons_succ, List.getElem?_cons_zero]; rfl) (by kernel_rfl) (by kernel_rfl) (by kernel_rfl) (fun _ _ _ h => h) (Or.inl ⟨by rfl, ?_⟩) hHeld ?_
  rotate_left
  · intro x hSw; first | (go_simp; done) | (go_simp; with_reducible rfl)
  try simp only [Act.put, List.setIfInBounds_toArray, List.set_cons_zero, List.set_cons_succ]
  refine wpAnyH_take (i := 27) (v := ?_) (by simp only [List.getElem?_toArray, List.getElem?_cons_succ, List.getElem?_cons_zero]; rfl) (by kernel_rfl) (by kernel_rfl) (by kernel_rfl) (fun _ _ _ h => h) (Or.inl ⟨by rfl, ?_⟩) hHeld ?_
  rotate_left
  · intro x hSw; first | (go_simp; done) | (go_simp; with_reducible rfl)
  try simp only [Act.put, List.setIfInBounds_toArray, List.set_cons_zero, List.set_cons_succ]
  refine wpAnyH_take (i := 28) (v := ?_) (by simp only [List.getElem?_toArray, List.getElem?_cons_succ, List.getElem?_cons_zero]; rfl) (by kernel_rfl) (by kernel_rfl) (by kernel_rfl) (fun _ _ _ h => h) (Or.inl ⟨by rfl, ?_⟩) hHeld ?_
  rotate_left
  · intro x hSw; first | (go_simp; done) | (go_simp; with_reducible rfl)
  try simp only [Act.put, List.setIfInBounds_toArray, List.set_cons_zero, List.set_cons_succ]
  refine wpAnyH_take (i := 29) (v := ?_) (by simp only [List.getElem?_toArray, List.getElem?_cons_succ, List.getElem?_cons_zero]; rfl) (by kernel_rfl) (by kernel_rfl) (by kernel_rfl) (fun _ _ _ h => h) (Or.inl ⟨by rfl, ?_⟩) hHeld ?_
  rotate_left
  · intro x hSw; first | (go_simp; done) | (go_simp; with_reducible rfl)
  try simp only [Act.put, List.setIfInBounds_toArray, List.set_cons_zero, List.set_cons_succ]
  refine wpAnyH_take (i := 30) (v := ?_) (by simp only [List.getElem?_toArray, List.getElem?_cons_succ, List.getElem?_cons_zero]; rfl) (by kernel_rfl) (by kernel_rfl) (by kernel_rfl) (fun _ _ _ h => h) (Or.inl ⟨by rfl, ?_⟩) hHeld ?_
  rotate_left
  · intro x hSw; first | (go_simp; done) | (go_simp; with_reducible rfl)
  try simp only [Act.put, List.setIfInBounds_toArray, List.set_cons_zero, List.set_cons_succ]
  refine wpAnyH_take (i := 31) (v := ?_) (by simp only [List.getElem?_toArray, List.getElem?_cons_succ, List.getElem?_cons_zero]; rfl) (by kernel_rfl) (by kernel_rfl) (by kernel_rfl) (fun _ _ _ h => h) (Or.inl ⟨by rfl, ?_⟩) hHeld ?_
  rotate_left
  · intro x hSw; first | (go_simp; done) | (go_simp; with_reducible rfl)
  try simp only [Act.put, List.setIfInBounds_toArray, List.set_cons_zero, List.set_cons_succ]
  refine wpAnyH_take (i := 32) (v := ?_) (by simp only [List.getElem?_toArray, List.getElem?_cons_succ, List.getElem?_cons_zero]; rfl) (by kernel_rfl) (by kernel_rfl) (by kernel_rfl) (fun _ _ _ h => h) (Or.inl ⟨by rfl, ?_⟩) hHeld ?_
  rotate_left
  · intro x hSw; first | (go_simp; done) | (go_simp; with_reducible rfl)
  try simp only [Act.put, List.setIfInBounds_toArray, List.set_cons_zero, List.set_cons_succ]
  refine wpAnyH_take (i := 33) (v := ?_) (by simp only [List.getElem?_toArray, List.getElem?_cons_succ, List.getElem?_cons_zero]; rfl) (by kernel_rfl) (by kernel_rfl) (by kernel_rfl) (fun _ _ _ h => h) (Or.inl ⟨by rfl, ?_⟩) hHeld ?_
  rotate_left
  · intro x hSw; first | (go_simp; done) | (go_simp; with_reducible rfl)
  try simp only [Act.put, List.setIfInBounds_toArray, List.set_cons_zero, List.set_cons_succ]
  refine wpAnyH_take (i := 34) (v := ?_) (by simp only [List.getElem?_toArray, List.getElem?_cons_succ, List.getElem?_cons_zero]; rfl) (by kernel_rfl) (by kernel_rfl) (by kernel_rfl) (fun _ _ _ h => h) (Or.inl ⟨by rfl, ?_⟩) hHeld ?_
  rotate_left
  · intro x hSw; first | (go_simp; done) | (go_simp; with_reducible rfl)
  try simp only [Act.put, List.setIfInBounds_toArray, List.set_cons_zero, List.set_cons_succ]
  refine wpAnyH_take (i := 35) (v := ?_) (by simp only [List.getElem?_toArray, List.getElem?_cons_succ, List.getElem?_cons_zero]; rfl) (by kernel_rfl) (by kernel_rfl) (by kernel_rfl) (fun _ _ _ h => h) (Or.inl ⟨by rfl, ?_⟩) hHeld ?_
  rotate_left
  · intro x hSw; first | (go_simp; done) | (go_simp; with_reducible rfl)
  try simp only [Act.put, List.setIfInBounds_toArray, List.set_cons_zero, List.set_cons_succ]
  refine wpAnyH_take (i := 36) (v := ?_) (by simp only [List.getElem?_toArray, List.getElem?_cons_succ, List.getElem?_cons_zero]; rfl) (by kernel_rfl) (by kernel_rfl) (by kernel_rfl) (fun _ _ _ h => h) (Or.inl ⟨by rfl, ?_⟩) hHeld ?_
  rotate_left
  · intro x hSw; first | (go_simp; done) | (go_simp; with_reducible rfl)
  try simp only [Act.put, List.setIfInBounds_toArray, List.set_cons_zero, List.set_cons_succ]
  refine wpAnyH_take (i := 37) (v := ?_) (by simp only [List.getElem?_toArray, List.getElem?_cons_succ, List.getElem?_cons_zero]; rfl) (by kernel_rfl) (by kernel_rfl) (by kernel_rfl) (fun _ _ _ h => h) (Or.inl ⟨by rfl, ?_⟩) hHeld ?_
  rotate_left
  · intro x hSw; first | (go_simp; done) | (go_simp; with_reducible rfl)
  try simp only [Act.put, List.setIfInBounds_toArray, List.set_cons_zero, List.set_cons_succ]
  refine wpAnyH_take (i := 38) (v := ?_) (by simp only [List.getElem?_toArray, List.getElem?_cons_succ, List.getElem?_cons_zero]; rfl) (by kernel_rfl) (by kernel_rfl) (by kernel_rfl) (fun _ _ _ h => h) (Or.inl ⟨by rfl, ?_⟩) hHeld ?_
  rotate_left
  · intro x hSw; (try dsimp only at hSw); obtain ⟨_, hd1, hd3, hd7, hd13⟩ := hSw; have c0d1 := hd1.c0; have c1d1 := hd1.c1; have c0d3 := hd3.c0; have c1d3 := hd3.c1; have c0d7 := hd7.c0; have c1d7 := hd7.c1; have c0d13 := hd13.c0; have c1d13 := hd13.c1; first | (go_simp; done) | (go_simp; with_reducible rfl)
  try simp only [Act.put, List.setIfInBounds_toArray, List.set_cons_zero, List.set_cons_succ]
  refine wpAnyH_take (i := 39) (v := ?_) (by simp only [List.getElem?_toArray, List.getElem?_cons_succ, List.getElem?_cons_zero]; rfl) (by kernel_rfl) (by kernel_rfl) (by kernel_rfl) (fun _ _ _ h => h) (Or.inl ⟨by rfl, ?_⟩) hHeld ?_
  rotate_left
  · intro x hSw; first | (go_simp; done) | (go_simp; with_reducible rfl)
  try simp only [Act.put, List.setIfInBounds_toArray, List.set_cons_zero, List.set_cons_succ]
  refine wpAnyH_take (i := 40) (v := ?_) (by simp only [List.getElem?_toArray, List.getElem?_cons_succ, List.getElem?_cons_zero]; rfl) (by kernel_rfl) (by kernel_rfl) (by kernel_rfl) (fun _ _ _ h => h) (Or.inl ⟨by rfl, ?_⟩) hHeld ?_
  rotate_left
  · intro x hSw; first | (go_simp; done) | (go_simp; with_reducible rfl)
  try simp only [Act.put, List.setIfInBounds_toArray, List.set_cons_zero, List.set_cons_succ]
  refine wpAnyH_take (i := 41) (v := ?_) (by simp only [List.getElem?_toArray, List.getElem?_cons_succ, List.getElem?_cons_zero]; rfl) (by kernel_rfl) (by kernel_rfl) (by kernel_rfl) (fun _ _ _ h => h) (Or.inl ⟨by rfl, ?_⟩) hHeld ?_
  rotate_left
  · intro x hSw; first | (go_simp; done) | (go_simp; with_reducible rfl)
  try simp only [Act.put, List.setIfInBounds_toArray, List.set_cons_zero, List.set_cons_succ]
  refine wpAnyH_take (i := 42) (v := ?_) (by simp only [List.getElem?_toArray, List.getElem?_cons_succ, List.getElem?_cons_zero]; rfl) (by kernel_rfl) (by kernel_rfl) (by kernel_rfl) (fun _ _ _ h => h) (Or.inl ⟨by rfl, ?_⟩) hHeld ?_
  rotate_left
  · intro x hSw; first | (go_simp; done) | (go_simp; with_reducible rfl)
  try simp only [Act.put, List.setIfInBounds_toArray, List.set_cons_zero, List.set_cons_succ]
  refine wpAnyH_take (i := 43) (v := ?_) (by simp only [List.getElem?_toArray, List.getElem?_cons_succ, List.getElem?_cons_zero]; rfl) (by kernel_rfl) (by kernel_rfl) (by kernel_rfl) (fun _ _ _ h => h) (Or.inl ⟨by rfl, ?_⟩) hHeld ?_
  rotate_left
  · intro x hSw; first | (go_simp; done) | (go_simp; with_reducible rfl)
  try simp only [Act.put, List.setIfInBounds_toArray, List.set_cons_zero, List.set_cons_succ]
  refine wpAnyH_take (i := 44) (v := ?_) (by simp only [List.getElem?_toArray, List.getElem?_cons_succ, List.getElem?_cons_zero]; rfl) (by kernel_rfl) (by kernel_rfl) (by kernel_rfl) (fun _ _ _ h => h) (Or.inl ⟨by rfl, ?_⟩) hHeld ?_
  rotate_left
  · intro x hSw; first | (go_simp; done) | (go_simp; with_reducible rfl)
  try simp only [Act.put, List.setIfInBounds_toArray, List.set_cons_zero, List.set_cons_succ]
  refine wpAnyH_take (i := 45) (v := ?_) (by simp only [List.getElem?_toArray, List.getElem?_cons_succ, List.getElem?_cons_zero]; rfl) (by kernel_rfl) (by kernel_rfl) (by kernel_rfl) (fun _ _ _ h => h) (Or.inl ⟨by rfl, ?_⟩) hHeld ?_
  rotate_left
  · intro x hSw; first | (go_simp; done) | (go_simp; with_reducible rfl)
  try simp only [Act.put, List.setIfInBounds_toArray, List.set_cons_zero, List.set_cons_succ]
  refine wpAnyH_ready (rs := [46]) (by kernel_rfl) (by simp) ?_
  refine AllReadyH.cons (by simp only [List.getElem?_toArray, List.getElem?_cons_succ, List.getElem?_cons_zero]; rfl) (fun K hK => ?_) AllReadyH.nil
  try go_simp
  refine (dot_of (-1) 0 (-1) 0 (by decide) (by decide) (by decide) _).mono ?_; rintro e wq4 ⟨rfl, q4⟩
  replace kB := kB.trans (q4.mono kB.size)
  replace kd1 := kd1.below q4
  replace kd3 := kd3.below q4
  replace kd7 := kd7.below q4
  replace kd13 := kd13.below q4
  clear q4
  try go_wp2_with fail
  refine hK.out _ _ ?_ (fun hHeld => ?_)
  · exact ⟨kB, kd1, kd3, kd7, kd13⟩
  clear hK K
  try simp only [Act.put, List.setIfInBounds_toArray, List.set_cons_zero, List.set_cons_succ]
  refine wpAnyH_ready (rs := [47]) (by kernel_rfl) (by simp) ?_
  refine AllReadyH.cons (by simp only [List.getElem?_toArray, List.getElem?_cons_succ, List.getElem?_cons_zero]; rfl) (fun K hK => ?_) AllReadyH.nil
  try go_simp
  refine (dot_of (1) 3 (1) 3 (by decide) (by decide) (by decide) _).mono ?_; rintro e wq5 ⟨rfl, q5⟩
  replace kB := kB.trans (q5.mono kB.size)
  replace kd1 := kd1.below q5
  replace kd3 := kd3.below q5
  replace kd7 := kd7.below q5
  replace kd13 := kd13.below q5
  clear q5
  try go_wp2_with fail
  refine hK.out _ _ ?_ (fun hHeld => ?_)
  · exact ⟨kB, kd1, kd3, kd7, kd13⟩
  clear hK K
  try simp only [Act.put, List.setIfInBounds_toArray, List.set_cons_zero, List.set_cons_succ]
  refine wpAnyH_ready (rs := [48]) (by kernel_rfl) (by simp) ?_
  refine AllReadyH.cons (by simp only [List.getElem?_toArray, List.getElem?_cons_succ, List.getElem?_cons_zero]; rfl) (fun K hK => ?_) AllReadyH.nil
  try go_simp
  refine (cmp_of (-1) 0 1 3 _ (-1) (by decide) (by decide) (by decide) (by decide) (by decide)).mono ?_; rintro e wq6 ⟨rfl, q6⟩
  replace kB := kB.trans (q6.mono kB.size)
  replace kd1 := kd1.below q6
  replace kd3 := kd3.below q6
  replace kd7 := kd7.below q6
  replace kd13 := kd13.below q6
  clear q6
  try go_wp2_with fail
  refine hK.out _ _ ?_ (fun hHeld => ?_)
  · exact ⟨kB, kd1, kd3, kd7, kd13⟩
  clear hK K
  try simp only [Act.put, List.setIfInBounds_toArray, List.set_cons_zero, List.set_cons_succ]
  refine wpAnyH_take (i := 49) (v := ?_) (by simp only [List.getElem?_toArray, List.getElem?_cons_succ, List.getElem?_cons_zero]; rfl) (by kernel_rfl) (by kernel_rfl) (by kernel_rfl) (fun _ _ _ h => h) (Or.inl ⟨by rfl, ?_⟩) hHeld ?_
  rotate_left
  · intro x hSw; first | (go_simp; done) | (go_simp; with_reducible rfl)
  try simp only [Act.put, List.setIfInBounds_toArray, List.set_cons_zero, List.set_cons_succ]
  refine wpAnyH_take (i := 50) (v := ?_) (by simp only [List.getElem?_toArray, List.getElem?_cons_succ, List.getElem?_cons_zero]; rfl) (by kernel_rfl) (by kernel_rfl) (by kernel_rfl) (fun _ _ _ h => h) (Or.inl ⟨by rfl, ?_⟩) hHeld ?_
  rotate_left
  · intro x hSw; first | (go_simp; done) | (go_simp; with_reducible rfl)
  try simp only [Act.put, List.setIfInBounds_toArray, List.set_cons_zero, List.set_cons_succ]
  refine wpAnyH_take (i := 51) (v := ?_) (by simp only [List.getElem?_toArray, List.getElem?_cons_succ, List.getElem?_cons_zero]; rfl) (by kernel_rfl) (by kernel_rfl) (by kernel_rfl) (fun _ _ _ h => h) (Or.inl ⟨by rfl, ?_⟩) hHeld ?_
  rotate_left
  · intro x hSw; first | (go_simp; done) | (go_simp; with_reducible rfl)
  try simp only [Act.put, List.setIfInBounds_toArray, List.set_cons_zero, List.set_cons_succ]
  refine wpAnyH_ready (rs := [52]) (by kernel_rfl) (by simp) ?_
  refine AllReadyH.cons (by simp only [List.getElem?_toArray, List.getElem?_cons_succ, List.getElem?_cons_zero]; rfl) (fun K hK => ?_) AllReadyH.nil
  try go_simp
  refine (dot_of (5) 1 (5) 1 (by decide) (by decide) (by decide) _).mono ?_; rintro e wq7 ⟨rfl, q7⟩
  replace kB := kB.trans (q7.mono kB.size)
  replace kd1 := kd1.below q7
  replace kd3 := kd3.below q7
  replace kd7 := kd7.below q7
  replace kd13 := kd13.below q7
  clear q7
  try go_wp2_with fail
  refine hK.out _ _ ?_ (fun hHeld => ?_)
  · exact ⟨kB, kd1, kd3, kd7, kd13⟩
  clear hK K
  try simp only [Act.put, List.setIfInBounds_toArray, List.set_cons_zero, List.set_cons_succ]
  refine wpAnyH_ready (rs := [53]) (by kernel_rfl) (by simp) ?_
  refine AllReadyH.cons (by simp only [List.getElem?_toArray, List.getElem?_cons_succ, List.getElem?_cons_zero]; rfl) (fun K hK => ?_) AllReadyH.nil
  try go_simp
  refine (neg_of 5 1 _ (-5) 1 (by decide) (by decide) (by decide)).mono ?_; rintro e wq8 ⟨rfl, q8⟩
  replace kB := kB.trans (q8.mono kB.size)
  replace kd1 := kd1.below q8
  replace kd3 := kd3.below q8
  replace kd7 := kd7.below q8
  replace kd13 := kd13.below q8
  clear q8
  try go_wp2_with fail
  refine hK.out _ _ ?_ (fun hHeld => ?_)
  · exact ⟨kB, kd1, kd3, kd7, kd13⟩
  clear hK K
  try simp only [Act.put, List.setIfInBounds_toArray, List.set_cons_zero, List.set_cons_succ]
  refine wpAnyH_ready (rs := [54]) (by kernel_rfl) (by simp) ?_
  refine AllReadyH.cons (by simp only [List.getElem?_toArray, List.getElem?_cons_succ, List.getElem?_cons_zero]; rfl) (fun K hK => ?_) AllReadyH.nil
  try go_simp
  refine (dot_of (-5) 1 (-5) 1 (by decide) (by decide) (by decide) _).mono ?_; rintro e wq9 ⟨rfl, q9⟩
  replace kB := kB.trans (q9.mono kB.size)
  replace kd1 := kd1.below q9
  replace kd3 := kd3.below q9
  replace kd7 := kd7.below q9
  replace kd13 := kd13.below q9
  clear q9
  try go_wp2_with fail
  refine hK.out _ _ ?_ (fun hHeld => ?_)
  · exact ⟨kB, kd1, kd3, kd7, kd13⟩
  clear hK K
  try simp only [Act.put, List.setIfInBounds_toArray, List.set_cons_zero, List.set_cons_succ]
  refine wpAnyH_take (i := 55) (v := ?_) (by simp only [List.getElem?_toArray, List.getElem?_cons_succ, List.getElem?_cons_zero]; rfl) (by kernel_rfl) (by kernel_rfl) (by kernel_rfl) (fun _ _ _ h => h) (Or.inl ⟨by rfl, ?_⟩) hHeld ?_
  rotate_left
  · intro x hSw; first | (go_simp; done) | (go_simp; with_reducible rfl)
  try simp only [Act.put, List.setIfInBounds_toArray, List.set_cons_zero, List.set_cons_succ]
  refine wpAnyH_take (i := 56) (v := ?_) (by simp only [List.getElem?_toArray, List.getElem?_cons_succ, List.getElem?_cons_zero]; rfl) (by kernel_rfl) (by kernel_rfl) (by kernel_rfl) (fun _ _ _ h => h) (Or.inl ⟨by rfl, ?_⟩) hHeld ?_
  rotate_left
  · intro x hSw; first | (go_simp; done) | (go_simp; with_reducible rfl)
  try simp only [Act.put, List.setIfInBounds_toArray, List.set_cons_zero, List.set_cons_succ]
  refine wpAnyH_take (i := 57) (v := ?_) (by simp only [List.getElem?_toArray, List.getElem?_cons_succ, List.getElem?_cons_zero]; rfl) (by kernel_rfl) (by kernel_rfl) (by kernel_rfl) (fun _ _ _ h => h) (Or.inl ⟨by rfl, ?_⟩) hHeld ?_
  rotate_left
  · intro x hSw; first | (go_simp; done) | (go_simp; with_reducible rfl)
  try simp only [Act.put, List.setIfInBounds_toArray, List.set_cons_zero, List.set_cons_succ]
  refine wpAnyH_done (by kernel_rfl) ?_ _
  refine NoPanic.normal ?_
  go_wp2_with fail
  go_ret
  exact ⟨rfl, kB⟩

end Go.Proofs.Ytpciohnnnpgpiaa
