/- The walk of the law DecTells. -/
import Derived.Test.YtcohonpbifdnjaaDoorDecLawA
import Derived.Test.YtcohonpbifdnjaaDoorDecLawB
import Derived.Test.YtcohonpbifdnjaaDoorRefDecG
import Derived.Lib.SmallJoins
namespace Go.Proofs.YtcohonpbifdnjaaDoor
open Go.RowKit Dc
attribute [local go_sem ↓] Go.wp_at_zero Go.wp_at_succ

theorem dec_of {H : Type} {enc : TypeId × Value → H} {W : World} {base : Nat} {sp : Nat → Bool} {held : Bool} {v : Value} {d : DataW H} {p : List MemPlace}
    (hv : Value.okWide Tryd.prog W .any 0 23 v) (h : DataW.Trod enc Tryd.prog W base sp held 23 v d p) :
    ∃ a b, v = dv2 a b ∧ (Lit.int .i64 a).wf = true ∧ (Lit.int .i64 b).wf = true := by
  obtain ⟨v0, v1, y0, y1, n, rfl, _, _, h0, h1⟩ := Go.Joins.open_agg2 Tryd.underlying23 (by kernel_rfl) (by kernel_rfl) hv h
  obtain ⟨a, e0, _, wa⟩ := DataW.trod_int Tryd.underlying2 h0
  obtain ⟨b, e1, _, wb⟩ := DataW.trod_int Tryd.underlying3 h1
  have f0 : v0 = .int .i64 a := by simpa using e0
  have f1 : v1 = .int .i64 b := by simpa using e1
  exact ⟨a, b, by rw [f0, f1], wa, wb⟩
theorem rdec_norm (o : Option (Int × Nat)) : rdecV o = normV o := by cases o <;> rfl
theorem norm_form {neg : Bool} {n : Nat} {s : Int} : ∃ a b c, normV (decOf neg n s) = .tuple #[dv2 a b, .bool c] ∧ -9223372036854775808 ≤ a ∧ a ≤ 9223372036854775807 := by
  cases h : decOf neg n s with
  | none => exact ⟨0, 0, false, rfl, by decide, by decide⟩
  | some r =>
    obtain ⟨a, k⟩ := r
    obtain ⟨_, hb, _⟩ := decOf_is h
    unfold big at hb
    exact ⟨a, k, true, rfl, by omega, by omega⟩

theorem u64_25 (n : Int) : ∃ Z : Nat, Z ≤ 24 ∧ wrap64 ((IntKind.u64.wrap n).tmod 25) = (Z : Int) := by
  have h0 : 0 ≤ IntKind.u64.wrap n := by
    simp [IntKind.wrap, IntKind.bits, IntKind.signed]
    try omega
  have h1 : (IntKind.u64.wrap n).tmod 25 = (IntKind.u64.wrap n) % 25 := Int.tmod_eq_emod_of_nonneg h0
  refine ⟨((IntKind.u64.wrap n) % 25).toNat, by omega, ?_⟩
  rw [h1]
  have h2 : wrap64 (IntKind.u64.wrap n % 25) = IntKind.u64.wrap n % 25 := by
    first | exact IntWalk.i64_in _ (by omega) | (unfold wrap64; omega)
  rw [h2]; omega

set_option maxRecDepth 100000 in
set_option maxHeartbeats 4000000 in
theorem tells_walk (x : ByteArray) (m n a b : Int) (w : World) (hm : -9223372036854775808 ≤ m) (hm2 : m ≤ 9223372036854775807) (hn : -9223372036854775808 ≤ n) (hn2 : n ≤ 9223372036854775807) (ha : -9223372036854775808 ≤ a) (ha2 : a ≤ 9223372036854775807) :
    Calls Tryd.prog 3 #[.string x, .int .i64 m, .int .i64 n, dv2 a b] w fun e w' => e = .returned (.bool true) ∧ Below w.heap.size w w' := by
  rw [str_self x]
  generalize x.data.toList = l
  have hsz := str_size l
  have D0 := DecAt.new w a b
  have b0 := (Below.refl w.heap.size w).alloc (Nat.le_refl _) (.cells #[.int .i64 a, .int .i64 b] 23)
  have B0 := Lib.hid b0
  clear b0
  by_cases hl : 100 < l.length
  · have D0' := Lib.hid D0
    clear D0
    go_enter Tryd.func3, Tryd.ntmps3
    go_wp2_with fail
    refine (known_calls _).mono ?_; rintro e w1 ⟨rfl, b1⟩
    go_wp2_with fail
    go_ret
    exact ⟨rfl, B0.out.trans (b1.mono B0.out.size)⟩
  obtain ⟨p1, p2, p3, p4, hpar⟩ : ∃ p1 p2 p3 p4, parse l = ((p1, p2), p3, p4) := ⟨_, _, _, _, rfl⟩
  have c1 := Lib.hid (fun W => parse_calls l W (by omega))
  have c2 : Hid (∀ W, Calls Tryd.prog 10 #[.string (str l)] W fun e w' => e = .returned (parseV (parse l)) ∧ Below W.heap.size W w') := fun W => rparse_calls l W (by omega)
  rw [hpar, show parseV ((p1, p2), p3, p4) = Value.tuple #[dv2 p1 p2, .int .i64 p3, .int .i64 p4] from rfl] at c1 c2
  obtain ⟨x1, x2, x3, hx, _, _⟩ := norm_form (neg := decide (m < 0)) (n := m.natAbs) (s := n)
  have c3 := Lib.hid (fun W => norm_calls m n W hm hm2 hn2)
  have c4 := Lib.hid (fun W => rnorm_calls m n W hm hm2 hn hn2)
  rw [rdec_norm] at c4
  rw [hx] at c3 c4
  obtain ⟨Z, hZ, hZe⟩ := u64_25 n
  obtain ⟨y1, y2, y3, hy, hy1, hy2⟩ := norm_form (neg := decide (m < 0)) (n := m.natAbs) (s := (Z : Int))
  have c5 := Lib.hid (fun W => norm_calls m (Z : Int) W hm hm2 (by omega))
  have c6 := Lib.hid (fun W => rnorm_calls m (Z : Int) W hm hm2 (by omega) (by omega))
  rw [rdec_norm] at c6
  rw [hy] at c5 c6
  have HZ := Lib.hid hZe
  have cg := Lib.hid (fun W => good_calls a b W)
  have crg := Lib.hid (fun W => rgood_calls a b W)
  have cp := Lib.hid (fun W => print_calls a b W ha ha2)
  have crp : Hid (∀ W, Calls Tryd.prog 16 #[dv2 a b] W fun e w' => e = .returned (.string (str (printL a b))) ∧ Below W.heap.size W w') := fun W => rprint_calls a b W ha ha2
  have cq := Lib.hid (fun W => print_calls y1 y2 W hy1 hy2)
  have crq : Hid (∀ W, Calls Tryd.prog 16 #[dv2 y1 y2] W fun e w' => e = .returned (.string (str (printL y1 y2))) ∧ Below W.heap.size W w') := fun W => rprint_calls y1 y2 W hy1 hy2
  clear hy hy1 hy2 hZe
  clear hpar hx
  go_enter Tryd.func3, Tryd.ntmps3
  go_wp2_with fail
  generalize w.alloc (.cells #[.int .i64 a, .int .i64 b] 23) = W0 at *
  refine (known_calls _).mono ?_; rintro e w1 ⟨rfl, b1⟩
  have D1 := D0.below b1
  have B1 := Lib.hid (B0.out.trans (b1.mono B0.out.size))
  clear b1 B0 D0
  have H1 := Lib.hid D1
  clear D1
  go_wp2_with fail
  refine (c1.out _).mono ?_; rintro e w2 ⟨rfl, b2⟩
  have D2 := Lib.hid ((H1.out.below b2).alloc (.cells #[.int .i64 p1, .int .i64 p2] 23))
  have E2 := Lib.hid (DecAt.new w2 p1 p2)
  have B2 := Lib.hid (kb_alloc (B1.out.trans (b2.mono B1.out.size)) (Nat.le_refl _) (.cells #[.int .i64 p1, .int .i64 p2] 23))
  clear b2 H1 B1 c1
  go_wp2_with fail
  generalize w2.alloc (.cells #[.int .i64 p1, .int .i64 p2] 23) = W2 at *
  generalize w2.heap.size = z2 at *
  refine (c2.out _).mono ?_; rintro e w3 ⟨rfl, b3⟩
  have D3 := Lib.hid ((D2.out.below b3).alloc (.cells #[.int .i64 p1, .int .i64 p2] 23))
  have E3 := Lib.hid ((E2.out.below b3).alloc (.cells #[.int .i64 p1, .int .i64 p2] 23))
  have F3 := Lib.hid (DecAt.new w3 p1 p2)
  have B3 := Lib.hid (kb_alloc (B2.out.trans (b3.mono B2.out.size)) (Nat.le_refl _) (.cells #[.int .i64 p1, .int .i64 p2] 23))
  clear b3 B2 D2 E2 c2
  go_wp2_with fail
  generalize w3.alloc (.cells #[.int .i64 p1, .int .i64 p2] 23) = W3 at *
  generalize w3.heap.size = z3 at *
  refine (c3.out _).mono ?_; rintro e w4 ⟨rfl, b4⟩
  have D4 := Lib.hid ((D3.out.below b4).alloc (.cells #[.int .i64 x1, .int .i64 x2] 23))
  have E4 := Lib.hid ((E3.out.below b4).alloc (.cells #[.int .i64 x1, .int .i64 x2] 23))
  have F4 := Lib.hid ((F3.out.below b4).alloc (.cells #[.int .i64 x1, .int .i64 x2] 23))
  have G4 := Lib.hid (DecAt.new w4 x1 x2)
  have B4 := Lib.hid (kb_alloc (B3.out.trans (b4.mono B3.out.size)) (Nat.le_refl _) (.cells #[.int .i64 x1, .int .i64 x2] 23))
  clear b4 B3 D3 E3 F3 c3
  go_wp2_with fail
  generalize w4.alloc (.cells #[.int .i64 x1, .int .i64 x2] 23) = W4 at *
  generalize w4.heap.size = z4 at *
  refine (c4.out _).mono ?_; rintro e w5 ⟨rfl, b5⟩
  have D5 := Lib.hid ((D4.out.below b5).alloc (.cells #[.int .i64 x1, .int .i64 x2] 23))
  have E5 := Lib.hid ((E4.out.below b5).alloc (.cells #[.int .i64 x1, .int .i64 x2] 23))
  have F5 := Lib.hid ((F4.out.below b5).alloc (.cells #[.int .i64 x1, .int .i64 x2] 23))
  have G5 := Lib.hid ((G4.out.below b5).alloc (.cells #[.int .i64 x1, .int .i64 x2] 23))
  have H5 := Lib.hid (DecAt.new w5 x1 x2)
  have B5 := Lib.hid (kb_alloc (B4.out.trans (b5.mono B4.out.size)) (Nat.le_refl _) (.cells #[.int .i64 x1, .int .i64 x2] 23))
  clear b5 B4 D4 E4 F4 G4 c4
  go_wp2_with fail
  generalize w5.alloc (.cells #[.int .i64 x1, .int .i64 x2] 23) = W5 at *
  generalize w5.heap.size = z5 at *
  rw [HZ.out]
  refine (c5.out _).mono ?_; rintro e w6 ⟨rfl, b6⟩
  have D6 := Lib.hid ((D5.out.below b6).alloc (.cells #[.int .i64 y1, .int .i64 y2] 23))
  have E6 := Lib.hid ((E5.out.below b6).alloc (.cells #[.int .i64 y1, .int .i64 y2] 23))
  have F6 := Lib.hid ((F5.out.below b6).alloc (.cells #[.int .i64 y1, .int .i64 y2] 23))
  have G6 := Lib.hid ((G5.out.below b6).alloc (.cells #[.int .i64 y1, .int .i64 y2] 23))
  have H6 := Lib.hid ((H5.out.below b6).alloc (.cells #[.int .i64 y1, .int .i64 y2] 23))
  have I6 := Lib.hid (DecAt.new w6 y1 y2)
  have B6 := Lib.hid (kb_alloc (B5.out.trans (b6.mono B5.out.size)) (Nat.le_refl _) (.cells #[.int .i64 y1, .int .i64 y2] 23))
  clear b6 B5 D5 E5 F5 G5 H5 c5
  go_wp2_with fail
  generalize w6.alloc (.cells #[.int .i64 y1, .int .i64 y2] 23) = W6 at *
  generalize w6.heap.size = z6 at *
  rw [HZ.out]
  refine (c6.out _).mono ?_; rintro e w7 ⟨rfl, b7⟩
  have D7 := Lib.hid ((D6.out.below b7).alloc (.cells #[.int .i64 y1, .int .i64 y2] 23))
  have E7 := Lib.hid ((E6.out.below b7).alloc (.cells #[.int .i64 y1, .int .i64 y2] 23))
  have F7 := Lib.hid ((F6.out.below b7).alloc (.cells #[.int .i64 y1, .int .i64 y2] 23))
  have G7 := Lib.hid ((G6.out.below b7).alloc (.cells #[.int .i64 y1, .int .i64 y2] 23))
  have H7 := Lib.hid ((H6.out.below b7).alloc (.cells #[.int .i64 y1, .int .i64 y2] 23))
  have I7 := Lib.hid ((I6.out.below b7).alloc (.cells #[.int .i64 y1, .int .i64 y2] 23))
  have J7 := Lib.hid (DecAt.new w7 y1 y2)
  have B7 := Lib.hid (kb_alloc (B6.out.trans (b7.mono B6.out.size)) (Nat.le_refl _) (.cells #[.int .i64 y1, .int .i64 y2] 23))
  clear b7 B6 D6 E6 F6 G6 H6 I6 c6
  go_upto_region 11 with (fail)
  generalize w7.alloc (.cells #[.int .i64 y1, .int .i64 y2] 23) = W1 at *
  generalize w7.heap.size = z7 at *
  have rD0 : ∀ x, Below W1.heap.size W1 x → x.cell? ⟨w.heap.size, 0, none⟩ = some (.int .i64 a) := fun x hx => (hx.cell (p := ⟨w.heap.size, 0, none⟩) D7.out.lt).trans D7.out.c0
  have rD1 : ∀ x, Below W1.heap.size W1 x → x.cell? ⟨w.heap.size, 1, none⟩ = some (.int .i64 b) := fun x hx => (hx.cell (p := ⟨w.heap.size, 1, none⟩) D7.out.lt).trans D7.out.c1
  have rE0 : ∀ x, Below W1.heap.size W1 x → x.cell? ⟨z2, 0, none⟩ = some (.int .i64 p1) := fun x hx => (hx.cell (p := ⟨z2, 0, none⟩) E7.out.lt).trans E7.out.c0
  have rE1 : ∀ x, Below W1.heap.size W1 x → x.cell? ⟨z2, 1, none⟩ = some (.int .i64 p2) := fun x hx => (hx.cell (p := ⟨z2, 1, none⟩) E7.out.lt).trans E7.out.c1
  have rF0 : ∀ x, Below W1.heap.size W1 x → x.cell? ⟨z3, 0, none⟩ = some (.int .i64 p1) := fun x hx => (hx.cell (p := ⟨z3, 0, none⟩) F7.out.lt).trans F7.out.c0
  have rF1 : ∀ x, Below W1.heap.size W1 x → x.cell? ⟨z3, 1, none⟩ = some (.int .i64 p2) := fun x hx => (hx.cell (p := ⟨z3, 1, none⟩) F7.out.lt).trans F7.out.c1
  have rG0 : ∀ x, Below W1.heap.size W1 x → x.cell? ⟨z4, 0, none⟩ = some (.int .i64 x1) := fun x hx => (hx.cell (p := ⟨z4, 0, none⟩) G7.out.lt).trans G7.out.c0
  have rG1 : ∀ x, Below W1.heap.size W1 x → x.cell? ⟨z4, 1, none⟩ = some (.int .i64 x2) := fun x hx => (hx.cell (p := ⟨z4, 1, none⟩) G7.out.lt).trans G7.out.c1
  have rH0 : ∀ x, Below W1.heap.size W1 x → x.cell? ⟨z5, 0, none⟩ = some (.int .i64 x1) := fun x hx => (hx.cell (p := ⟨z5, 0, none⟩) H7.out.lt).trans H7.out.c0
  have rH1 : ∀ x, Below W1.heap.size W1 x → x.cell? ⟨z5, 1, none⟩ = some (.int .i64 x2) := fun x hx => (hx.cell (p := ⟨z5, 1, none⟩) H7.out.lt).trans H7.out.c1
  have rI0 : ∀ x, Below W1.heap.size W1 x → x.cell? ⟨z6, 0, none⟩ = some (.int .i64 y1) := fun x hx => (hx.cell (p := ⟨z6, 0, none⟩) I7.out.lt).trans I7.out.c0
  have rI1 : ∀ x, Below W1.heap.size W1 x → x.cell? ⟨z6, 1, none⟩ = some (.int .i64 y2) := fun x hx => (hx.cell (p := ⟨z6, 1, none⟩) I7.out.lt).trans I7.out.c1
  have rJ0 : ∀ x, Below W1.heap.size W1 x → x.cell? ⟨z7, 0, none⟩ = some (.int .i64 y1) := fun x hx => (hx.cell (p := ⟨z7, 0, none⟩) J7.out.lt).trans J7.out.c0
  have rJ1 : ∀ x, Below W1.heap.size W1 x → x.cell? ⟨z7, 1, none⟩ = some (.int .i64 y2) := fun x hx => (hx.cell (p := ⟨z7, 1, none⟩) J7.out.lt).trans J7.out.c1
  have q1 := fun W => eql_dec p1 p2 p1 p2 W
  have q2 := fun W => eql_dec x1 x2 x1 x2 W
  have q3 := fun W => eql_dec y1 y2 y1 y2 W
  rw [decide_eq_true (⟨rfl, rfl⟩ : p1 = p1 ∧ p2 = p2)] at q1
  rw [decide_eq_true (⟨rfl, rfl⟩ : x1 = x1 ∧ x2 = x2)] at q2
  rw [decide_eq_true (⟨rfl, rfl⟩ : y1 = y1 ∧ y2 = y2)] at q3
  clear D7 E7 F7 G7 H7 I7 J7 HZ
  generalize goodD a b = g at *
  generalize printL a b = P at *
  generalize printL y1 y2 = Q at *
  go_region_held3 (fun x => Below W1.heap.size W1 x)
    (((repeat' first | assumption | exact Below.refl _ _ | exact Nat.le_refl _ | apply kp_alloc | apply kp_set | apply Below.drew | omega); done))
    (first
      | (go_at_call_of 13 (Value.agg #[Value.int .i64 a, Value.int .i64 b]); refine (cg.out _).mono ?_; rintro e u11 ⟨rfl, b11⟩; have k11 : Below W1.heap.size W1 u11 := (by refine trans9 ?_ b11; (repeat' first | assumption | exact Below.refl _ _ | exact Nat.le_refl _ | apply kp_alloc | apply kp_set | apply Below.drew | omega)))
      | (go_at_call_of 14 (Value.agg #[Value.int .i64 a, Value.int .i64 b]); refine (crg.out _).mono ?_; rintro e u12 ⟨rfl, b12⟩; have k12 : Below W1.heap.size W1 u12 := (by refine trans9 ?_ b12; (repeat' first | assumption | exact Below.refl _ _ | exact Nat.le_refl _ | apply kp_alloc | apply kp_set | apply Below.drew | omega)))
      | (go_at_call_of 15 (Value.agg #[Value.int .i64 a, Value.int .i64 b]); refine (cp.out _).mono ?_; rintro e u13 ⟨rfl, b13⟩; have k13 : Below W1.heap.size W1 u13 := (by refine trans9 ?_ b13; (repeat' first | assumption | exact Below.refl _ _ | exact Nat.le_refl _ | apply kp_alloc | apply kp_set | apply Below.drew | omega)))
      | (go_at_call_of 16 (Value.agg #[Value.int .i64 a, Value.int .i64 b]); refine (crp.out _).mono ?_; rintro e u14 ⟨rfl, b14⟩; have k14 : Below W1.heap.size W1 u14 := (by refine trans9 ?_ b14; (repeat' first | assumption | exact Below.refl _ _ | exact Nat.le_refl _ | apply kp_alloc | apply kp_set | apply Below.drew | omega)))
      | (go_at_call_of 15 (Value.agg #[Value.int .i64 y1, Value.int .i64 y2]); refine (cq.out _).mono ?_; rintro e u15 ⟨rfl, b15⟩; have k15 : Below W1.heap.size W1 u15 := (by refine trans9 ?_ b15; (repeat' first | assumption | exact Below.refl _ _ | exact Nat.le_refl _ | apply kp_alloc | apply kp_set | apply Below.drew | omega)))
      | (go_at_call_of 16 (Value.agg #[Value.int .i64 y1, Value.int .i64 y2]); refine (crq.out _).mono ?_; rintro e u16 ⟨rfl, b16⟩; have k16 : Below W1.heap.size W1 u16 := (by refine trans9 ?_ b16; (repeat' first | assumption | exact Below.refl _ _ | exact Nat.le_refl _ | apply kp_alloc | apply kp_set | apply Below.drew | omega))))
  all_goals
    go_wp2_with fail
    go_ret
    refine ⟨rfl, B7.out.trans (Below.mono (B := W1.heap.size) ?_ B7.out.size)⟩
    assumption

end Go.Proofs.YtcohonpbifdnjaaDoor
