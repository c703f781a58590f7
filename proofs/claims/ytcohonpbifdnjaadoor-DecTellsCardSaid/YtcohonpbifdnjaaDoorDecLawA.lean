/- The walk of the law DecBounds. -/
import Derived.Test.YtcohonpbifdnjaaDoorDecK
import Derived.Test.YtcohonpbifdnjaaDoorFrame
namespace Go.Proofs.YtcohonpbifdnjaaDoor
open Go.RowKit Dc

def bigL : List UInt8 := [57, 50, 50, 51, 51, 55, 50, 48, 51, 54, 56, 53, 52, 55, 55, 53, 56, 48, 55]
def moreL : List UInt8 := [57, 50, 50, 51, 51, 55, 50, 48, 51, 54, 56, 53, 52, 55, 55, 53, 56, 48, 56]
def tx (l : List UInt8) (n : Nat) : List UInt8 := l.take (19 - n) ++ (if n = 0 then [] else 46 :: l.drop (19 - n))
def smallL : List UInt8 := [48, 46, 48, 48, 48, 48, 48, 48, 48, 48, 48, 48, 48, 48, 48, 48, 48, 48, 48, 49]
theorem bounds_big (neg : Bool) : ∀ n, n < 19 → parse (sgn neg ++ tx bigL n) = (((if neg then -9223372036854775807 else 9223372036854775807 : Int), (n : Int)), 0, 0) := by
  cases neg <;> decide
theorem bounds_more (neg : Bool) : ∀ n, n < 19 → parse (sgn neg ++ tx moreL n) = ((0, 0), 12, 0) := by
  cases neg <;> decide
theorem bounds_one (neg : Bool) : parse (sgn neg ++ smallL) = (((if neg then -1 else 1 : Int), 18), 0, 0) := by
  cases neg <;> decide
theorem bounds_less (neg : Bool) : parse (sgn neg ++ [48, 46, 48, 48, 48, 48, 48, 48, 48, 48, 48, 48, 48, 48, 48, 48, 48, 48, 48, 48, 49]) = ((0, 0), 12, 0) := by
  cases neg <;> decide
theorem bounds_more0 (neg : Bool) : parse (sgn neg ++ [48, 46, 48, 48, 48, 48, 48, 48, 48, 48, 48, 48, 48, 48, 48, 48, 48, 48, 48, 49, 48]) = (((if neg then -1 else 1 : Int), 18), 0, 0) := by
  cases neg <;> decide

theorem add_str (a b : List UInt8) (h : a.length + b.length ≤ 140737488351232) (W : World) : (Op.stringOp .add (str a) (str b)).run Tryd.prog W = .ok (.string (str (a ++ b))) W := by
  rw [run_string_add_sum W _ _ (by rw [str_size, str_size]; omega), str_app]
theorem cut_to (l : List UInt8) (k : Int) (j : Nat) (hk : k = j) (h : j ≤ l.length) (W : World) : (Instr.slice 9 (.string (str l)) none (some (.int .i64 k)) none).run Tryd.prog W = .ok (.string (str (l.take j))) W := by
  subst hk
  rw [run_slice_string_to_if W _ _ _ _ Tryd.underlying9, if_pos ⟨by omega, by rw [str_size]; omega⟩]
  congr 2
  exact str_ext (by rw [ext_list]; simp)
theorem cut_from (l : List UInt8) (k : Int) (j : Nat) (hk : k = j) (h : j ≤ l.length) (W : World) : (Instr.slice 9 (.string (str l)) (some (.int .i64 k)) none none).run Tryd.prog W = .ok (.string (str (l.drop j))) W := by
  subst hk
  rw [run_slice_string_from_if W _ _ _ _ Tryd.underlying9, if_pos ⟨by omega, by rw [str_size]; omega⟩]
  congr 2
  exact str_ext (by rw [ext_list, str_size]; simp)

set_option maxRecDepth 100000 in
set_option maxHeartbeats 8000000 in
theorem bounds_walk (x : Int) (neg : Bool) (w : World) (hx : 0 ≤ x) (hx2 : x ≤ 255) :
    Calls Tryd.prog 7 #[.int .u8 x, .bool neg] w fun e w' => e = .returned (.bool true) ∧ Below w.heap.size w w' := by
  go_enter Tryd.func7, Tryd.ntmps7
  go_wp2_with fail
  refine (known_calls _).mono ?_; rintro e w1 ⟨rfl, b1⟩
  have B1 := Lib.hid b1
  clear b1
  have hN : ∃ N : Nat, N < 19 ∧ Hid ((N : Int) = x % 19) := ⟨(x % 19).toNat, by omega, by show _ = _; omega⟩
  obtain ⟨N, hN, HN⟩ := hN
  go_upto_region 4 with (fail)
  go_cut [7] (fun s7 wx => s7 = .int .i64 (N : Nat) ∧ wx = w1)
  case first =>
    go_wp2_with fail
    go_meet
    exact ⟨by rw [HN.out], rfl⟩
  case rest =>
    obtain ⟨rfl, rfl⟩ := hcut
    clear HN
    go_upto_if 33 with (fail)
    go_cut [8] (fun s8 wx => s8 = .string (str (sgn neg)) ∧ wx = wc)
    case first =>
      cases neg
      · go_wp2_with fail
        go_meet
        exact ⟨rfl, rfl⟩
      · go_wp2_with fail
        go_meet
        exact ⟨rfl, rfl⟩
    case rest =>
      obtain ⟨rfl, rfl⟩ := hcut
      have hsg : (sgn neg).length ≤ 1 := by cases neg <;> decide
      have t1 := cut_to bigL (19 - (N : Int)) (19 - N) (by omega) (show 19 - N ≤ 19 by omega)
      have t2 := cut_to moreL (19 - (N : Int)) (19 - N) (by omega) (show 19 - N ≤ 19 by omega)
      have f1 := cut_from bigL (19 - (N : Int)) (19 - N) (by omega) (show 19 - N ≤ 19 by omega)
      have f2 := cut_from moreL (19 - (N : Int)) (19 - N) (by omega) (show 19 - N ≤ 19 by omega)
      have l1 : (bigL.take (19 - N)).length ≤ 19 := by rw [List.length_take]; show min (19 - N) 19 ≤ 19; omega
      have l2 : (moreL.take (19 - N)).length ≤ 19 := by rw [List.length_take]; show min (19 - N) 19 ≤ 19; omega
      have l3 : (bigL.drop (19 - N)).length ≤ 19 := by rw [List.length_drop]; show 19 - (19 - N) ≤ 19; omega
      have l4 : (moreL.drop (19 - N)).length ≤ 19 := by rw [List.length_drop]; show 19 - (19 - N) ≤ 19; omega
      have e1 : tx bigL N = bigL.take (19 - N) ++ (if N = 0 then [] else 46 :: bigL.drop (19 - N)) := rfl
      have e2 : tx moreL N = moreL.take (19 - N) ++ (if N = 0 then [] else 46 :: moreL.drop (19 - N)) := rfl
      have hp1 := bounds_big neg N hN
      have hp2 := bounds_more neg N hN
      have hp3 := bounds_one neg
      have hp4 := bounds_less neg
      have hp5 := bounds_more0 neg
      have E1 := Lib.hid e1
      have E2 := Lib.hid e2
      have P1 := Lib.hid hp1
      have P2 := Lib.hid hp2
      have P3 := Lib.hid hp3
      have P4 := Lib.hid hp4
      have P5 := Lib.hid hp5
      have L1 := Lib.hid l1
      have L2 := Lib.hid l2
      have L3 := Lib.hid l3
      have L4 := Lib.hid l4
      clear e1 e2 hp1 hp2 hp3 hp4 hp5 l1 l2 l3 l4
      have T1 : ∀ W, (Instr.slice 9 (.string ⟨#[57, 50, 50, 51, 51, 55, 50, 48, 51, 54, 56, 53, 52, 55, 55, 53, 56, 48, 55]⟩) none (some (.int .i64 (19 - (N : Int)))) none).run Tryd.prog W = .ok (.string (str (bigL.take (19 - N)))) W := t1
      have T2 : ∀ W, (Instr.slice 9 (.string ⟨#[57, 50, 50, 51, 51, 55, 50, 48, 51, 54, 56, 53, 52, 55, 55, 53, 56, 48, 56]⟩) none (some (.int .i64 (19 - (N : Int)))) none).run Tryd.prog W = .ok (.string (str (moreL.take (19 - N)))) W := t2
      have F1 : ∀ W, (Instr.slice 9 (.string ⟨#[57, 50, 50, 51, 51, 55, 50, 48, 51, 54, 56, 53, 52, 55, 55, 53, 56, 48, 55]⟩) (some (.int .i64 (19 - (N : Int)))) none none).run Tryd.prog W = .ok (.string (str (bigL.drop (19 - N)))) W := f1
      have F2 : ∀ W, (Instr.slice 9 (.string ⟨#[57, 50, 50, 51, 51, 55, 50, 48, 51, 54, 56, 53, 52, 55, 55, 53, 56, 48, 56]⟩) (some (.int .i64 (19 - (N : Int)))) none none).run Tryd.prog W = .ok (.string (str (moreL.drop (19 - N)))) W := f2
      clear t1 t2 f1 f2
      generalize bigL.take (19 - N) = A1 at *
      generalize moreL.take (19 - N) = A2 at *
      generalize bigL.drop (19 - N) = D1 at *
      generalize moreL.drop (19 - N) = D2 at *
      generalize tx bigL N = X1 at *
      generalize tx moreL N = X2 at *
      generalize sgn neg = sg0 at *
      have a1 := add_str sg0 A1 (by have := L1.out; omega)
      have a2 := add_str sg0 A2 (by have := L2.out; omega)
      have F1' := Lib.hid F1
      have F2' := Lib.hid F2
      clear F1 F2
      go_upto_if 47 with (fail)
      have T1' := Lib.hid T1
      clear T1 T2 a1 a2
      go_cut [9, 10] (fun s9 s10 wx => s9 = .string (str (sg0 ++ X1)) ∧ s10 = .string (str (sg0 ++ X2)) ∧ Hid (Below w.heap.size w wx))
      case first =>
        by_cases h0 : N = 0
        · have E1' : Hid (X1 = A1) := by have h := E1.out; rw [if_pos h0, List.append_nil] at h; exact h
          have E2' : Hid (X2 = A2) := by have h := E2.out; rw [if_pos h0, List.append_nil] at h; exact h
          clear E1 E2
          go_wp2_with fail
          go_meet
          exact ⟨by rw [E1'.out], by rw [E2'.out], B1.out⟩
        · have E1' : Hid (sg0 ++ X1 = sg0 ++ A1 ++ [46] ++ D1) := by have h := E1.out; rw [if_neg h0] at h; show _ = _; rw [h]; simp
          have E2' : Hid (sg0 ++ X2 = sg0 ++ A2 ++ [46] ++ D2) := by have h := E2.out; rw [if_neg h0] at h; show _ = _; rw [h]; simp
          have g1 := add_str (sg0 ++ A1) [46] (by have := L1.out; rw [List.length_append]; simp; omega)
          have g2 := add_str (sg0 ++ A2) [46] (by have := L2.out; rw [List.length_append]; simp; omega)
          have g3 := add_str (sg0 ++ A1 ++ [46]) D1 (by have := L1.out; have := L3.out; rw [List.length_append, List.length_append]; simp; omega)
          have g4 := add_str (sg0 ++ A2 ++ [46]) D2 (by have := L2.out; have := L4.out; rw [List.length_append, List.length_append]; simp; omega)
          have G1 : ∀ W : World, (Op.stringOp .add (str (sg0 ++ A1)) ⟨#[46]⟩).run Tryd.prog W = .ok (.string (str (sg0 ++ A1 ++ [46]))) W := g1
          have G2 : ∀ W : World, (Op.stringOp .add (str (sg0 ++ A2)) ⟨#[46]⟩).run Tryd.prog W = .ok (.string (str (sg0 ++ A2 ++ [46]))) W := g2
          have F1 := F1'.out
          have F2 := F2'.out
          have h0b : 0 < N := by omega
          clear E1 E2 g1 g2
          generalize sg0 ++ A1 ++ [46] = Y1 at *
          generalize sg0 ++ A2 ++ [46] = Y2 at *
          generalize sg0 ++ A1 = Z1 at *
          generalize sg0 ++ A2 = Z2 at *
          go_wp2_with fail
          go_quiet (fail)
          go_wp2_with fail
          go_meet
          exact ⟨by rw [E1'.out], by rw [E2'.out], below_drewN B1.out nq⟩
      case rest =>
        obtain ⟨rfl, rfl, HB⟩ := hcut
        have hX1 : X1.length ≤ 40 := by
          have h := congrArg List.length E1.out
          have := L1.out
          have := L3.out
          rw [List.length_append] at h
          split at h
          · simp at h; omega
          · simp at h; omega
        have hX2 : X2.length ≤ 40 := by
          have h := congrArg List.length E2.out
          have := L2.out
          have := L4.out
          rw [List.length_append] at h
          split at h
          · simp at h; omega
          · simp at h; omega
        have c1 := Lib.hid (fun W => parse_calls (sg0 ++ X1) W (by rw [List.length_append]; omega))
        have c2 := Lib.hid (fun W => parse_calls (sg0 ++ X2) W (by rw [List.length_append]; omega))
        have c3 := Lib.hid (fun W => parse_calls (sg0 ++ smallL) W (by rw [List.length_append, show smallL.length = 20 from rfl]; omega))
        have c4 := Lib.hid (fun W => parse_calls (sg0 ++ [48, 46, 48, 48, 48, 48, 48, 48, 48, 48, 48, 48, 48, 48, 48, 48, 48, 48, 48, 48, 49]) W (by rw [List.length_append]; simp; omega))
        have c5 := Lib.hid (fun W => parse_calls (sg0 ++ [48, 46, 48, 48, 48, 48, 48, 48, 48, 48, 48, 48, 48, 48, 48, 48, 48, 48, 48, 49, 48]) W (by rw [List.length_append]; simp; omega))
        have a3 : ∀ W : World, (Op.stringOp .add (str sg0) ⟨#[48, 46, 48, 48, 48, 48, 48, 48, 48, 48, 48, 48, 48, 48, 48, 48, 48, 48, 48, 49]⟩).run Tryd.prog W = .ok (.string (str (sg0 ++ smallL))) W := add_str sg0 smallL (by rw [show smallL.length = 20 from rfl]; omega)
        have a4 : ∀ W : World, (Op.stringOp .add (str sg0) ⟨#[48, 46, 48, 48, 48, 48, 48, 48, 48, 48, 48, 48, 48, 48, 48, 48, 48, 48, 48, 48, 49]⟩).run Tryd.prog W = .ok (.string (str (sg0 ++ [48, 46, 48, 48, 48, 48, 48, 48, 48, 48, 48, 48, 48, 48, 48, 48, 48, 48, 48, 48, 49]))) W := add_str sg0 _ (by simp; omega)
        have a5 : ∀ W : World, (Op.stringOp .add (str sg0) ⟨#[48, 46, 48, 48, 48, 48, 48, 48, 48, 48, 48, 48, 48, 48, 48, 48, 48, 48, 48, 49, 48]⟩).run Tryd.prog W = .ok (.string (str (sg0 ++ [48, 46, 48, 48, 48, 48, 48, 48, 48, 48, 48, 48, 48, 48, 48, 48, 48, 48, 48, 49, 48]))) W := add_str sg0 _ (by simp; omega)
        rw [P1.out] at c1
        rw [P2.out] at c2
        rw [P3.out] at c3
        rw [P4.out] at c4
        rw [P5.out] at c5
        clear P1 P2 P3 P4 P5 E1 E2 L1 L2 L3 L4 hX1 hX2 F1' F2' T1' B1 hsg
        have hwv : Hid ((if neg = true then (-9223372036854775807 : Int) else 9223372036854775807) = if neg = true then (-9223372036854775807 : Int) else 9223372036854775807) := rfl
        generalize hw1 : (if neg = true then (-9223372036854775807 : Int) else 9223372036854775807) = wv at *
        generalize hw2 : (if neg = true then (-1 : Int) else 1) = ov at *
        have Hw1 := Lib.hid hw1
        have Hw2 := Lib.hid hw2
        clear hw1 hw2 hwv
        generalize sg0 ++ [48, 46, 48, 48, 48, 48, 48, 48, 48, 48, 48, 48, 48, 48, 48, 48, 48, 48, 48, 48, 49] = S4 at *
        generalize sg0 ++ [48, 46, 48, 48, 48, 48, 48, 48, 48, 48, 48, 48, 48, 48, 48, 48, 48, 48, 48, 49, 48] = S5 at *
        generalize sg0 ++ smallL = S3 at *
        generalize sg0 ++ X1 = S1 at *
        generalize sg0 ++ X2 = S2 at *
        go_wp2_with fail
        refine (c1.out _).mono ?_; rintro e w2 ⟨rfl, b2⟩
        rw [show parseV ((wv, (N : Int)), 0, 0) = Value.tuple #[dv2 wv (N : Int), .int .i64 0, .int .i64 0] from rfl]
        have D2 := DecAt.new w2 wv (N : Int)
        have B2 := Lib.hid (kb_alloc (HB.out.trans (b2.mono HB.out.size)) (Nat.le_refl _) (.cells #[.int .i64 wv, .int .i64 (N : Int)] 23))
        clear b2 HB c1
        go_wp2_with fail
        generalize w2.alloc (.cells #[.int .i64 wv, .int .i64 (N : Int)] 23) = W2 at *
        generalize w2.heap.size = z2 at *
        refine (c2.out _).mono ?_; rintro e w3 ⟨rfl, b3⟩
        rw [show parseV ((0, 0), 12, 0) = Value.tuple #[dv2 0 0, .int .i64 12, .int .i64 0] from rfl]
        have D3 := (D2.below b3).alloc (.cells #[.int .i64 0, .int .i64 0] 23)
        have B3 := Lib.hid (kb_alloc (B2.out.trans (b3.mono B2.out.size)) (Nat.le_refl _) (.cells #[.int .i64 0, .int .i64 0] 23))
        clear b3 B2 D2 c2
        go_wp2_with fail
        generalize w3.alloc (.cells #[.int .i64 0, .int .i64 0] 23) = W3 at *
        generalize w3.heap.size = z3 at *
        refine (c3.out _).mono ?_; rintro e w4 ⟨rfl, b4⟩
        rw [show parseV ((ov, 18), 0, 0) = Value.tuple #[dv2 ov 18, .int .i64 0, .int .i64 0] from rfl]
        have D4 := (D3.below b4).alloc (.cells #[.int .i64 ov, .int .i64 18] 23)
        have E4 := DecAt.new w4 ov 18
        have B4 := Lib.hid (kb_alloc (B3.out.trans (b4.mono B3.out.size)) (Nat.le_refl _) (.cells #[.int .i64 ov, .int .i64 18] 23))
        clear b4 B3 D3 c3 a3
        go_wp2_with fail
        generalize w4.alloc (.cells #[.int .i64 ov, .int .i64 18] 23) = W4 at *
        generalize w4.heap.size = z4 at *
        refine (c4.out _).mono ?_; rintro e w5 ⟨rfl, b5⟩
        rw [show parseV ((0, 0), 12, 0) = Value.tuple #[dv2 0 0, .int .i64 12, .int .i64 0] from rfl]
        have D5 := (D4.below b5).alloc (.cells #[.int .i64 0, .int .i64 0] 23)
        have E5 := (E4.below b5).alloc (.cells #[.int .i64 0, .int .i64 0] 23)
        have B5 := Lib.hid (kb_alloc (B4.out.trans (b5.mono B4.out.size)) (Nat.le_refl _) (.cells #[.int .i64 0, .int .i64 0] 23))
        clear b5 B4 D4 E4 c4 a4
        go_wp2_with fail
        generalize w5.alloc (.cells #[.int .i64 0, .int .i64 0] 23) = W5 at *
        generalize w5.heap.size = z5 at *
        refine (c5.out _).mono ?_; rintro e w6 ⟨rfl, b6⟩
        rw [show parseV ((ov, 18), 0, 0) = Value.tuple #[dv2 ov 18, .int .i64 0, .int .i64 0] from rfl]
        have D6 := (D5.below b6).alloc (.cells #[.int .i64 ov, .int .i64 18] 23)
        have E6 := (E5.below b6).alloc (.cells #[.int .i64 ov, .int .i64 18] 23)
        have B6 := Lib.hid (kb_alloc (B5.out.trans (b6.mono B5.out.size)) (Nat.le_refl _) (.cells #[.int .i64 ov, .int .i64 18] 23))
        clear b6 B5 D5 E5 c5 a5
        go_upto_if 95 with (fail)
        generalize w6.alloc (.cells #[.int .i64 ov, .int .i64 18] 23) = W6 at *
        generalize w6.heap.size = z6 at *
        go_cut [26, 27] (fun s26 s27 wx => s26 = .int .i64 wv ∧ s27 = .int .i64 ov ∧ wx = W6)
        case first =>
          have h1 := Hw1.out
          have h2 := Hw2.out
          cases neg
          · have h1' := Lib.hid h1.symm
            have h2' := Lib.hid h2.symm
            clear h1 h2
            go_wp2_with fail
            go_meet
            exact ⟨by rw [h1'.out]; rfl, by rw [h2'.out]; rfl, rfl⟩
          · have h1' := Lib.hid h1.symm
            have h2' := Lib.hid h2.symm
            clear h1 h2
            go_wp2_with fail
            go_meet
            exact ⟨by rw [h1'.out]; rfl, by rw [h2'.out]; rfl, rfl⟩
        case rest =>
          obtain ⟨rfl, rfl, rfl⟩ := hcut
          have k0 := D6.c0
          have k1 := D6.c1
          have k2 := E6.c0
          have k3 := E6.c1
          have q1 := fun W => eql_dec wv (N : Int) wv (N : Int) W
          have q2 := fun W => eql_dec ov 18 ov 18 W
          rw [decide_eq_true (⟨rfl, rfl⟩ : wv = wv ∧ (N : Int) = (N : Int))] at q1
          rw [decide_eq_true (⟨rfl, rfl⟩ : ov = ov ∧ (18 : Int) = 18)] at q2
          clear D6 E6
          go_wp2_with fail
          go_ret
          exact ⟨rfl, B6.out⟩

end Go.Proofs.YtcohonpbifdnjaaDoor
