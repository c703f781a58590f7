/- Equality of decimals as one step; the walk of the laws' known answers. -/
import Derived.Test.YtcohonpbifdnjaaDoorDecD
import Derived.Test.YtcohonpbifdnjaaDoorDecG
namespace Go.Proofs.YtcohonpbifdnjaaDoor
open Go.RowKit Dc

theorem eql_dec (a b c d : Int) (W : World) : (binOp .eql 23 (dv2 a b) (dv2 c d)).run Tryd.prog W = .ok (.bool (decide (a = c ∧ b = d))) W := by
  by_cases h1 : a = c
  · subst h1
    by_cases h2 : b = d
    · subst h2
      go_simp
    · have h2b : (b == d) = false := by simpa using h2
      go_simp
  · have h1b : (a == c) = false := by simpa using h1
    go_simp
theorem digs5 : digs 5 = [5] := by rw [digs_pos (by decide), show 5 / 10 = 0 from rfl, digs_zero]; rfl
theorem print_d : printL (-5) 1 = [45, 48, 46, 53] := by
  unfold printL
  rw [show (-5 : Int).natAbs = 5 from rfl, digs5]
  decide
theorem print_0 : printL 0 0 = [48] := by
  unfold printL
  rw [show (0 : Int).natAbs = 0 from rfl, digs_zero]
  decide
theorem parse_1 : parse [45, 48, 46, 53, 48] = ((-5, 1), 0, 0) := by decide
theorem parse_2 : parse [49, 46] = ((0, 0), 11, 2) := by decide
theorem parse_3 : parse [57, 50, 50, 51, 51, 55, 50, 48, 51, 54, 56, 53, 52, 55, 55, 53, 56, 48, 56] = ((0, 0), 12, 0) := by decide
theorem norm_1 : normV (decOf (decide ((1200 : Int) < 0)) (1200 : Int).natAbs 3) = .tuple #[dv2 12 1, .bool true] := by
  rw [show decOf (decide ((1200 : Int) < 0)) (1200 : Int).natAbs 3 = some (12, 1) by decide]; rfl

/-- a decimal lies in block b -/
structure DecAt (w : World) (b : Nat) (m s : Int) : Prop where
  c0 : w.cell? ⟨b, 0, none⟩ = some (.int .i64 m)
  c1 : w.cell? ⟨b, 1, none⟩ = some (.int .i64 s)
  lt : b < w.heap.size
theorem DecAt.below {w w' : World} {b : Nat} {m s : Int} (h : DecAt w b m s) (hb : Below w.heap.size w w') : DecAt w' b m s :=
  ⟨(hb.cell (p := ⟨b, 0, none⟩) h.lt).trans h.c0, (hb.cell (p := ⟨b, 1, none⟩) h.lt).trans h.c1, Nat.lt_of_lt_of_le h.lt hb.size⟩
theorem DecAt.new (w : World) (m s : Int) : DecAt (w.alloc (.cells #[.int .i64 m, .int .i64 s] 23)) w.heap.size m s :=
  ⟨by simp [go_sem], by simp [go_sem], by simp⟩
theorem DecAt.alloc {w : World} {b : Nat} {m s : Int} (h : DecAt w b m s) (o : Obj) : DecAt (w.alloc o) b m s := h.below ((Below.refl _ _).alloc (Nat.le_refl _) o)

set_option maxRecDepth 100000 in
set_option maxHeartbeats 4000000 in
theorem known_calls (w : World) :
    Calls Tryd.prog 8 #[] w fun e w' => e = .returned (.bool true) ∧ Below w.heap.size w w' := by
  go_enter Tryd.func8, Tryd.ntmps8
  go_wp2_with fail
  refine (parse_calls [45, 48, 46, 53, 48] _ (by decide)).mono ?_; rintro e w1 ⟨rfl, b1⟩
  rw [parse_1, show parseV ((-5, 1), 0, 0) = Value.tuple #[dv2 (-5) 1, .int .i64 0, .int .i64 0] from rfl]
  have D1 := DecAt.new w1 (-5) 1
  have B1 := Lib.hid (kb_alloc b1 (Nat.le_refl _) (.cells #[.int .i64 (-5), .int .i64 1] 23))
  clear b1
  go_wp2_with fail
  generalize w1.alloc (.cells #[.int .i64 (-5), .int .i64 1] 23) = W1 at *
  generalize w1.heap.size = z1 at *
  refine (parse_calls [49, 46] _ (by decide)).mono ?_; rintro e w2 ⟨rfl, b2⟩
  rw [parse_2, show parseV ((0, 0), 11, 2) = Value.tuple #[dv2 0 0, .int .i64 11, .int .i64 2] from rfl]
  have D2 := (D1.below b2).alloc (.cells #[.int .i64 0, .int .i64 0] 23)
  have B2 := Lib.hid (kb_alloc (B1.out.trans (b2.mono B1.out.size)) (Nat.le_refl _) (.cells #[.int .i64 0, .int .i64 0] 23))
  clear b2 B1 D1
  go_wp2_with fail
  generalize w2.alloc (.cells #[.int .i64 0, .int .i64 0] 23) = W2 at *
  generalize w2.heap.size = z2 at *
  refine (parse_calls [57, 50, 50, 51, 51, 55, 50, 48, 51, 54, 56, 53, 52, 55, 55, 53, 56, 48, 56] _ (by decide)).mono ?_; rintro e w3 ⟨rfl, b3⟩
  rw [parse_3, show parseV ((0, 0), 12, 0) = Value.tuple #[dv2 0 0, .int .i64 12, .int .i64 0] from rfl]
  have D3 := (D2.below b3).alloc (.cells #[.int .i64 0, .int .i64 0] 23)
  have B3 := Lib.hid (kb_alloc (B2.out.trans (b3.mono B2.out.size)) (Nat.le_refl _) (.cells #[.int .i64 0, .int .i64 0] 23))
  clear b3 B2 D2
  go_wp2_with fail
  generalize w3.alloc (.cells #[.int .i64 0, .int .i64 0] 23) = W3 at *
  generalize w3.heap.size = z3 at *
  refine (norm_calls 1200 3 _ (by decide) (by decide) (by decide)).mono ?_; rintro e w4 ⟨rfl, b4⟩
  rw [norm_1]
  have D4 := (D3.below b4).alloc (.cells #[.int .i64 12, .int .i64 1] 23)
  have E4 := DecAt.new w4 12 1
  have B4 := Lib.hid (kb_alloc (B3.out.trans (b4.mono B3.out.size)) (Nat.le_refl _) (.cells #[.int .i64 12, .int .i64 1] 23))
  clear b4 B3 D3
  have H4 := Lib.hid D4
  have G4 := Lib.hid E4
  have c0 := D4.c0
  have c1 := D4.c1
  have e0 := E4.c0
  have e1 := E4.c1
  have q1 := fun W => eql_dec (-5) 1 (-5) 1 W
  have q2 := fun W => eql_dec 12 1 12 1 W
  rw [show decide ((-5 : Int) = -5 ∧ (1 : Int) = 1) = true from rfl] at q1
  rw [show decide ((12 : Int) = 12 ∧ (1 : Int) = 1) = true from rfl] at q2
  clear D4 E4
  go_wp2_with fail
  generalize w4.alloc (.cells #[.int .i64 12, .int .i64 1] 23) = W4 at *
  refine (print_calls (-5) 1 _ (by decide) (by decide)).mono ?_; rintro e w5 ⟨rfl, b5⟩
  rw [print_d]
  have D5 := H4.out.below b5
  have B5 := Lib.hid (B4.out.trans (b5.mono B4.out.size))
  have d0 := D5.c0
  have d1 := D5.c1
  have H5 := Lib.hid D5
  clear b5 B4 c0 c1 e0 e1 H4 G4 D5
  go_wp2_with fail
  refine (good_calls (-5) 1 _).mono ?_; rintro e w6 ⟨rfl, b6⟩
  rw [show goodD (-5) 1 = true from by decide]
  have B6 := Lib.hid (B5.out.trans (b6.mono B5.out.size))
  clear b6 B5 d0 d1 H5
  go_wp2_with fail
  refine (good_calls 10 1 _).mono ?_; rintro e w7 ⟨rfl, b7⟩
  rw [show goodD 10 1 = false from by decide]
  have B7 := Lib.hid (B6.out.trans (b7.mono B6.out.size))
  clear b7 B6
  go_wp2_with fail
  refine (print_calls 0 0 _ (by decide) (by decide)).mono ?_; rintro e w8 ⟨rfl, b8⟩
  rw [print_0]
  have B8 := Lib.hid (B7.out.trans (b8.mono B7.out.size))
  clear b8 B7
  go_wp2_with fail
  go_ret
  exact ⟨rfl, B8.out⟩

end Go.Proofs.YtcohonpbifdnjaaDoor
