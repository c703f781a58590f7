/- The walk of the law DecBack. -/
import Derived.Test.YtcohonpbifdnjaaDoorDecK
import Derived.Test.YtcohonpbifdnjaaDoorFrame
import Derived.Deep.RegionHeld3
import Derived.Deep.DrawnRows
namespace Go.Proofs.YtcohonpbifdnjaaDoor
open Go.RowKit Dc
attribute [local go_sem ↓] Go.wp_at_zero Go.wp_at_succ

theorem i64_bounds {x : Int} (h : (Lit.int .i64 x).wf = true) : -9223372036854775808 ≤ x ∧ x ≤ 9223372036854775807 := by simpa [Lit.wf, IntKind.min, IntKind.max, IntKind.signed, IntKind.bits] using h
theorem decOf_none_min {m : Int} {s : Int} (h1 : -9223372036854775808 ≤ m) (h2 : m ≤ 9223372036854775807) (h3 : 0 ≤ s) (h4 : s ≤ 18) (h : decOf (decide (m < 0)) m.natAbs s = none) : m = -9223372036854775808 := by
  by_cases hb : m.natAbs ≤ big
  · obtain ⟨r, hr⟩ := decOf_some (decide (m < 0)) m.natAbs s hb h3 h4
    rw [h] at hr; cases hr
  · unfold big at hb; omega
theorem print_inj {a b c d : Int} (h1 : goodD a b = true) (h2 : goodD c d = true) (k1 : a.natAbs ≤ big) (k2 : c.natAbs ≤ big) : printL a b = printL c d ↔ (a = c ∧ b = d) := by
  constructor
  · intro h
    have e1 := parse_print a b k1 h1
    rw [h, parse_print c d k2 h2] at e1
    simp only [Prod.mk.injEq, and_true] at e1
    exact ⟨e1.1.symm, e1.2.symm⟩
  · rintro ⟨rfl, rfl⟩; rfl

set_option maxRecDepth 100000 in
set_option maxHeartbeats 1000000 in
theorem back_walk (m n x y : Int) (w : World) (hm : -9223372036854775808 ≤ m) (hm2 : m ≤ 9223372036854775807) (hn : -9223372036854775808 ≤ n) (hn2 : n ≤ 9223372036854775807) (hx : 0 ≤ x) (hx2 : x ≤ 255) (hy : 0 ≤ y) (hy2 : y ≤ 255) :
    Calls Tryd.prog 4 #[.int .i64 m, .int .i64 n, .int .u8 x, .int .u8 y] w fun e w' => e = .returned (.bool true) ∧ Below w.heap.size w w' := by
  have nx := Lib.hid (fun W => norm_calls m (x % 19) W hm hm2 (by omega))
  have ny := Lib.hid (fun W => norm_calls n (y % 19) W hn hn2 (by omega))
  have ox := Lib.hid (fun h => decOf_none_min (s := x % 19) hm hm2 (by omega) (by omega) h)
  have oy := Lib.hid (fun h => decOf_none_min (s := y % 19) hn hn2 (by omega) (by omega) h)
  go_enter Tryd.func4, Tryd.ntmps4
  go_wp2_with fail
  refine (known_calls _).mono ?_; rintro e w1 ⟨rfl, b1⟩
  go_wp2_with fail
  refine (nx.out _).mono ?_; rintro e w2 ⟨rfl, b2⟩
  have B2 := Lib.hid (trans9 b1 b2)
  clear b1 b2 nx
  cases hox : decOf (decide (m < 0)) m.natAbs (x % 19) with
  | none =>
    have hmin := ox.out hox
    have hmb : (m == -9223372036854775808) = true := by rw [hmin]; rfl
    have Hmin := Lib.hid hmin
    clear ox hox hmin
    rw [show normV none = Value.tuple #[dv2 0 0, .bool false] from rfl]
    go_wp2_with fail
    refine (ny.out _).mono ?_; rintro e w3 ⟨rfl, b3⟩
    have B3 := Lib.hid ((kb_alloc B2.out (Nat.le_refl _) (.cells #[.int .i64 0, .int .i64 0] 23)).trans (b3.mono (by have := B2.out.size; simp; omega)))
    clear b3 B2 ny
    cases hoy : decOf (decide (n < 0)) n.natAbs (y % 19) with
    | none =>
      have hmin := oy.out hoy
      have hnb : (n == -9223372036854775808) = true := by rw [hmin]; rfl
      clear oy hoy hmin
      rw [show normV none = Value.tuple #[dv2 0 0, .bool false] from rfl]
      go_wp2_with fail
      go_ret
      exact ⟨rfl, kb_alloc B3.out (Nat.le_refl _) _⟩
    | some r =>
      obtain ⟨b, j⟩ := r
      rw [show normV (some (b, j)) = Value.tuple #[dv2 b j, .bool true] from rfl]
      clear oy hoy
      go_wp2_with fail
      go_ret
      exact ⟨rfl, kb_alloc B3.out (Nat.le_refl _) _⟩
  | some r =>
    obtain ⟨a, k⟩ := r
    rw [show normV (some (a, k)) = Value.tuple #[dv2 a k, .bool true] from rfl]
    obtain ⟨ga, la, _⟩ := decOf_is hox
    have D2 := DecAt.new w2 a (k : Int)
    have B2' := Lib.hid (kb_alloc B2.out (Nat.le_refl _) (.cells #[.int .i64 a, .int .i64 (k : Int)] 23))
    clear hox ox B2
    go_wp2_with fail
    generalize w2.alloc (.cells #[.int .i64 a, .int .i64 (k : Int)] 23) = W2 at *
    generalize w2.heap.size = z2 at *
    refine (ny.out _).mono ?_; rintro e w3 ⟨rfl, b3⟩
    have B3 := Lib.hid (B2'.out.trans (b3.mono B2'.out.size))
    have D3 := D2.below b3
    clear b3 B2' ny D2
    cases hoy : decOf (decide (n < 0)) n.natAbs (y % 19) with
    | none =>
      have hmin := oy.out hoy
      have hnb : (n == -9223372036854775808) = true := by rw [hmin]; rfl
      clear oy hoy hmin D3
      rw [show normV none = Value.tuple #[dv2 0 0, .bool false] from rfl]
      go_wp2_with fail
      go_ret
      exact ⟨rfl, kb_alloc B3.out (Nat.le_refl _) _⟩
    | some r =>
      obtain ⟨b, j⟩ := r
      rw [show normV (some (b, j)) = Value.tuple #[dv2 b j, .bool true] from rfl]
      obtain ⟨gb, lb, _⟩ := decOf_is hoy
      have D4 := D3.alloc (.cells #[.int .i64 b, .int .i64 (j : Int)] 23)
      have E4 := DecAt.new w3 b (j : Int)
      have B4 := Lib.hid (kb_alloc B3.out (Nat.le_refl _) (.cells #[.int .i64 b, .int .i64 (j : Int)] 23))
      have D4' := Lib.hid D4
      have E4' := Lib.hid E4
      have hpa := Lib.hid (parse_print a k la ga)
      have hne := print_ne a k ga
      have hlen := printL_len a (k : Int) la
      have hinj := Lib.hid (print_inj ga gb la lb)
      have Hne := Lib.hid hne
      have ca := Lib.hid (fun W => print_calls a (k : Int) W (by unfold big at la; omega) (by unfold big at la; omega))
      have cb := Lib.hid (fun W => print_calls b (j : Int) W (by unfold big at lb; omega) (by unfold big at lb; omega))
      have cg1 := Lib.hid (fun W => good_calls a (k : Int) W)
      have cg2 := Lib.hid (fun W => good_calls b (j : Int) W)
      rw [ga] at cg1
      rw [gb] at cg2
      clear oy hoy D3 B3 D4 E4 ga gb la lb hne
      go_upto_region 7 with (fail)
      generalize w3.alloc (.cells #[.int .i64 b, .int .i64 (j : Int)] 23) = W1 at *
      generalize w3.heap.size = z3 at *
      generalize printL a k = p at *
      generalize printL b j = q at *
      go_cut [13, 14] (fun s13 s14 wx => s13 = .string (str p) ∧ s14 = .string (str q) ∧ Hid (Below W1.heap.size W1 wx))
      case first =>
        have r0 : ∀ x, Below W1.heap.size W1 x → x.cell? ⟨z2, 0, none⟩ = some (.int .i64 a) := fun x hx => (hx.cell (p := ⟨z2, 0, none⟩) D4'.out.lt).trans D4'.out.c0
        have r1 : ∀ x, Below W1.heap.size W1 x → x.cell? ⟨z2, 1, none⟩ = some (.int .i64 k) := fun x hx => (hx.cell (p := ⟨z2, 1, none⟩) D4'.out.lt).trans D4'.out.c1
        have r2 : ∀ x, Below W1.heap.size W1 x → x.cell? ⟨z3, 0, none⟩ = some (.int .i64 b) := fun x hx => (hx.cell (p := ⟨z3, 0, none⟩) E4'.out.lt).trans E4'.out.c0
        have r3 : ∀ x, Below W1.heap.size W1 x → x.cell? ⟨z3, 1, none⟩ = some (.int .i64 j) := fun x hx => (hx.cell (p := ⟨z3, 1, none⟩) E4'.out.lt).trans E4'.out.c1
        go_region_held3 (fun x => Below W1.heap.size W1 x)
          (((repeat' first | assumption | exact Below.refl _ _ | exact Nat.le_refl _ | apply kp_alloc | apply kp_set | apply Below.drew | omega); done))
          (first
            | (go_at_call_of 15 (Value.agg #[Value.int .i64 a, Value.int .i64 (k : Int)]); refine (ca.out _).mono ?_; rintro e w5 ⟨rfl, b5⟩; have k5 : Below W1.heap.size W1 w5 := (by refine trans9 ?_ b5; (repeat' first | assumption | exact Below.refl _ _ | exact Nat.le_refl _ | apply kp_alloc | apply kp_set | apply Below.drew | omega)))
            | (go_at_call_of 15 (Value.agg #[Value.int .i64 b, Value.int .i64 (j : Int)]); refine (cb.out _).mono ?_; rintro e w6 ⟨rfl, b6⟩; have k6 : Below W1.heap.size W1 w6 := (by refine trans9 ?_ b6; (repeat' first | assumption | exact Below.refl _ _ | exact Nat.le_refl _ | apply kp_alloc | apply kp_set | apply Below.drew | omega))))
        all_goals
          go_wp2_with fail
          go_meet
          refine ⟨rfl, rfl, ?_⟩
          show Below _ _ _
          assumption
      case rest =>
        obtain ⟨rfl, rfl, HB⟩ := hcut
        have D5 := D4'.out.below HB.out
        have E5 := E4'.out.below HB.out
        have B5 := Lib.hid (B4.out.trans (HB.out.mono B4.out.size))
        have hp1 := Lib.hid (parse_calls p wc (by omega))
        rw [hpa.out, show parseV ((a, (k : Int)), 0, 0) = Value.tuple #[dv2 a (k : Int), .int .i64 0, .int .i64 0] from rfl] at hp1
        have hpl : 0 < p.length := by
          have := Hne.out
          cases p with
          | nil => exact absurd rfl this
          | cons c p => simp
        have hsz := str_size p
        clear B4 HB D4' E4' hpa Hne ca cb
        go_wp2_with fail
        refine hp1.out.mono ?_; rintro e w7 ⟨rfl, b7⟩
        have D7 := (D5.below b7).alloc (.cells #[.int .i64 a, .int .i64 (k : Int)] 23)
        have E7 := (E5.below b7).alloc (.cells #[.int .i64 a, .int .i64 (k : Int)] 23)
        have F7 := DecAt.new w7 a (k : Int)
        have B7 := Lib.hid (kb_alloc (B5.out.trans (b7.mono B5.out.size)) (Nat.le_refl _) (.cells #[.int .i64 a, .int .i64 (k : Int)] 23))
        clear b7 B5 D5 E5 hp1
        have x0 := D7.c0
        have x1 := D7.c1
        go_wp2_with fail
        generalize w7.alloc (.cells #[.int .i64 a, .int .i64 (k : Int)] 23) = W7 at *
        generalize w7.heap.size = z7 at *
        clear x0 x1
        refine (cg1.out _).mono ?_; rintro e w8 ⟨rfl, b8⟩
        have D8 := D7.below b8
        have E8 := E7.below b8
        have F8 := F7.below b8
        have B8 := Lib.hid (B7.out.trans (b8.mono B7.out.size))
        clear b8 B7 D7 E7 F7 cg1
        have x0 := E8.c0
        have x1 := E8.c1
        go_wp2_with fail
        clear x0 x1
        refine (cg2.out _).mono ?_; rintro e w9 ⟨rfl, b9⟩
        have D9 := D8.below b9
        have E9 := E8.below b9
        have F9 := F8.below b9
        have B9 := Lib.hid (B8.out.trans (b9.mono B8.out.size))
        clear b9 B8 D8 E8 F8 cg2
        have x0 := D9.c0
        have x1 := D9.c1
        have y0 := E9.c0
        have y1 := E9.c1
        have v0 := F9.c0
        have v1 := F9.c1
        have q1 := fun W => eql_dec a (k : Int) a (k : Int) W
        rw [decide_eq_true (⟨rfl, rfl⟩ : a = a ∧ (k : Int) = (k : Int))] at q1
        have q2 := fun W => eql_dec a (k : Int) b (j : Int) W
        clear D9 E9 F9
        by_cases hpq : p = q
        · have hd : decide (a = b ∧ (k : Int) = (j : Int)) = true := decide_eq_true (hinj.out.1 hpq)
          have hpqb : (p == q) = true := by rw [hpq]; simp
          rw [hd] at q2
          have Hpq := Lib.hid hpq
          clear hd hpq
          go_wp2_with fail
          go_ret
          exact ⟨rfl, B9.out⟩
        · have hd : decide (a = b ∧ (k : Int) = (j : Int)) = false := decide_eq_false (fun e => hpq (hinj.out.2 e))
          have hpqb : (p == q) = false := by simpa using hpq
          rw [hd] at q2
          have Hpq := Lib.hid hpq
          clear hd hpq
          go_wp2_with fail
          go_ret
          exact ⟨rfl, B9.out⟩

end Go.Proofs.YtcohonpbifdnjaaDoor
