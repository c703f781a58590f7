/- The walk of the law StampInts. -/
import Derived.Test.YtmbpldnclnahmaaDoorStampK
import Derived.Test.YtmbpldnclnahmaaDoorRefDecG
import Derived.Test.YtmbpldnclnahmaaDoorFrame
import Derived.Deep.QuietTactic
import Derived.BigQuiet
set_option maxRecDepth 100000
set_option linter.unusedVariables false
set_option linter.unusedSimpArgs false
namespace Go.Proofs.YtmbpldnclnahmaaDoor
open Go.RowKit Dc

theorem dgN_app {d : List UInt8} (h : allDg d) : dgN d = d.length := by
  unfold dgN
  rw [show d.takeWhile dg = d from by
    have := takeWhile_app h []
    simpa using this]
theorem uint_text {d : List UInt8} (h : allDg d) (hne : d ≠ []) (hb : valN (vals d) ≤ big) : uintO d = (((valN (vals d) : Nat) : Int), 0, 0) :=
  uint_ok (by rw [dgN_app h]; intro e; exact hne (List.eq_nil_of_length_eq_zero e)) (by rw [dgN_app h]; omega) hb
theorem uint_sign (d : List UInt8) : uintO (45 :: d) = (0, 11, 0) := by
  have e : dgN (45 :: d) = 0 := by rw [dgN_cons, if_neg (by decide)]
  rw [uint_bad (Or.inl e), e]; rfl
theorem int_sign {d : List UInt8} (h : allDg d) (hne : d ≠ []) (hb : valN (vals d) ≤ big) : intO (45 :: d) = (-((valN (vals d) : Nat) : Int), 0, 0) := by
  have hs : sg (45 :: d) = 1 := rfl
  unfold intO
  rw [hs, show (45 :: d).drop 1 = d from rfl, uint_text h hne hb]
  rfl
theorem int_bare {d : List UInt8} (h : allDg d) (hne : d ≠ []) (hb : valN (vals d) ≤ big) : intO d = (((valN (vals d) : Nat) : Int), 0, 0) := by
  have hs : sg d = 0 := sg_of_dg (dgN_app h)
  unfold intO
  rw [hs, List.drop_zero, uint_text h hne hb]
  rfl
theorem zeros_dg {d : List UInt8} (h : allDg d) (i : Nat) : allDg (List.replicate i 48 ++ d) := allDg_app (fun c hc => by rw [List.eq_of_mem_replicate hc]; decide) h
theorem zeros_val (d : List UInt8) (i : Nat) : valN (vals (List.replicate i 48 ++ d)) = valN (vals d) := by rw [vals_app, vals_zeros, valN_zeros]
theorem zeros_ne {d : List UInt8} (h : d ≠ []) (i : Nat) : List.replicate i 48 ++ d ≠ [] := by simp [h]
theorem zeros_more (d : List UInt8) (i : Nat) : [48] ++ (List.replicate i 48 ++ d) = List.replicate (i + 1) 48 ++ d := by rw [List.replicate_succ]; rfl
theorem digits_of (N : Int) (hb : N.natAbs ≤ big) : ∃ d, allDg d ∧ d ≠ [] ∧ printL N 0 = sgn (decide (N < 0)) ++ d ∧ valN (vals d) = N.natAbs ∧ d.length ≤ 40 := by
  have hg : goodD N 0 = true := (goodD_iff N 0).2 ⟨by omega, by omega, by unfold big at hb; omega, Or.inl rfl⟩
  obtain ⟨d, h1, h2, h3, h4⟩ := printL_is N 0 hg
  have e : dl N.natAbs (0 : Int).toNat = [] := rfl
  rw [e, List.append_nil] at h4
  rw [e, show dot [] = [] from rfl, List.append_nil] at h3
  refine ⟨d, h1, h2, h3, h4, ?_⟩
  have := printL_len N 0 hb
  rw [h3, List.length_append] at this
  omega
theorem norm_int (N : Int) (hb : N.natAbs ≤ big) : decOf (decide (N < 0)) N.natAbs 0 = some (N, 0) := by
  have hg : goodD N 0 = true := (goodD_iff N 0).2 ⟨by omega, by omega, by unfold big at hb; omega, Or.inl rfl⟩
  exact decOf_good N 0 hb hg

theorem i_more_t (w : World) : Calls Tryd.prog 8 #[.string ⟨#[45, 57, 50, 50, 51, 51, 55, 50, 48, 51, 54, 56, 53, 52, 55, 55, 53, 56, 48, 56]⟩] w fun e w' => e = .returned (.tuple #[.int .i64 0, .int .i64 12, .int .i64 0]) ∧ Below w.heap.size w w' := by
  have h := int_calls [45, 57, 50, 50, 51, 51, 55, 50, 48, 51, 54, 56, 53, 52, 55, 55, 53, 56, 48, 56] w (by decide)
  rwa [show intO [45, 57, 50, 50, 51, 51, 55, 50, 48, 51, 54, 56, 53, 52, 55, 55, 53, 56, 48, 56] = (0, 12, 0) by decide] at h
theorem i_more_f (w : World) : Calls Tryd.prog 8 #[.string ⟨#[57, 50, 50, 51, 51, 55, 50, 48, 51, 54, 56, 53, 52, 55, 55, 53, 56, 48, 56]⟩] w fun e w' => e = .returned (.tuple #[.int .i64 0, .int .i64 12, .int .i64 0]) ∧ Below w.heap.size w w' := by
  have h := int_calls [57, 50, 50, 51, 51, 55, 50, 48, 51, 54, 56, 53, 52, 55, 55, 53, 56, 48, 56] w (by decide)
  rwa [show intO [57, 50, 50, 51, 51, 55, 50, 48, 51, 54, 56, 53, 52, 55, 55, 53, 56, 48, 56] = (0, 12, 0) by decide] at h
theorem i_last_t (w : World) : Calls Tryd.prog 8 #[.string ⟨#[45, 57, 50, 50, 51, 51, 55, 50, 48, 51, 54, 56, 53, 52, 55, 55, 53, 56, 48, 55]⟩] w fun e w' => e = .returned (.tuple #[.int .i64 (-9223372036854775807), .int .i64 0, .int .i64 0]) ∧ Below w.heap.size w w' := by
  have h := int_calls [45, 57, 50, 50, 51, 51, 55, 50, 48, 51, 54, 56, 53, 52, 55, 55, 53, 56, 48, 55] w (by decide)
  rwa [show intO [45, 57, 50, 50, 51, 51, 55, 50, 48, 51, 54, 56, 53, 52, 55, 55, 53, 56, 48, 55] = ((-9223372036854775807), 0, 0) by decide] at h
theorem i_last_f (w : World) : Calls Tryd.prog 8 #[.string ⟨#[57, 50, 50, 51, 51, 55, 50, 48, 51, 54, 56, 53, 52, 55, 55, 53, 56, 48, 55]⟩] w fun e w' => e = .returned (.tuple #[.int .i64 9223372036854775807, .int .i64 0, .int .i64 0]) ∧ Below w.heap.size w w' := by
  have h := int_calls [57, 50, 50, 51, 51, 55, 50, 48, 51, 54, 56, 53, 52, 55, 55, 53, 56, 48, 55] w (by decide)
  rwa [show intO [57, 50, 50, 51, 51, 55, 50, 48, 51, 54, 56, 53, 52, 55, 55, 53, 56, 48, 55] = (9223372036854775807, 0, 0) by decide] at h

set_option maxHeartbeats 4000000 in
theorem ints_true (n z : Int) (w : World) (hp : Pl w) (hn1 : -9223372036854775808 ≤ n) (hn2 : n ≤ 9223372036854775807) (hz0 : 0 ≤ z) (hz1 : z ≤ 255)
    (N : Int) (hN : N = if n = -9223372036854775808 then n + 1 else n) (hneg : N < 0) :
    Calls Tryd.prog 6 #[.int .i64 n, .int .u8 z] w fun e w' => e = .returned (.bool true) ∧ Below w.heap.size w w' := by
  have kB := Below.refl w.heap.size w
  have hNb : N.natAbs ≤ big := by unfold big; split at hN <;> omega
  have hN1 : -9223372036854775808 ≤ N ∧ N ≤ 9223372036854775807 := by unfold big at hNb; omega
  obtain ⟨d, had, hne, hpr, hval, hlen⟩ := digits_of N hNb
  rw [show decide (N < 0) = true by simpa using hneg] at hpr
  have hnorm := Lib.hid (fun W => rnorm_calls N 0 W hN1.1 hN1.2 (by omega) (by omega))
  rw [norm_int N hNb, show rdecV (some (N, 0)) = .tuple #[dv2 N 0, .bool true] from rfl] at hnorm
  have hprint := Lib.hid (fun W => rprint_calls N 0 W hN1.1 hN1.2)
  rw [hpr, show sgn true ++ d = 45 :: d from rfl] at hprint
  have hv : valN (vals d) ≤ big := by rw [hval]; exact hNb
  have hint := Lib.hid (fun (i : Nat) (hi : i ≤ 8) W => int_calls (45 :: (List.replicate i 48 ++ d)) W (by simp; omega))
  have huint := Lib.hid (fun (i : Nat) (hi : i ≤ 8) W => uint_calls (45 :: (List.replicate i 48 ++ d)) W (by simp; omega))
  have hi1 := Lib.hid (fun i : Nat => int_sign (zeros_dg had i) (zeros_ne hne i) (by rw [zeros_val]; exact hv))
  have hi2 := Lib.hid (fun i : Nat => uint_sign (List.replicate i 48 ++ d))
  have hNv : Hid (-((N.natAbs : Nat) : Int) = N) := by show _ = _; omega
  have hzv := Lib.hid (fun i : Nat => zeros_val d i)
  rw [hval] at hzv
  have hsl := fun W => cut_from (45 :: d) 1 1 rfl (by simp) W
  rw [show (45 :: d).drop 1 = d from rfl] at hsl
  have hadd0 : ∀ (i : Nat), i ≤ 8 → ∀ W, (Op.stringOp .add ⟨#[48]⟩ (str (List.replicate i 48 ++ d))).run Tryd.prog W = .ok (.string (str (List.replicate (i + 1) 48 ++ d))) W := fun i hi W => by
    have h := add_str [48] (List.replicate i 48 ++ d) (by simp; omega) W
    rwa [zeros_more] at h
  have hadd1 : ∀ (i : Nat), i ≤ 8 → ∀ W, (Op.stringOp .add ⟨#[45]⟩ (str (List.replicate i 48 ++ d))).run Tryd.prog W = .ok (.string (str (45 :: (List.replicate i 48 ++ d)))) W := fun i hi W => add_str [45] (List.replicate i 48 ++ d) (by simp; omega) W
  have hadd8 : ∀ W, (Op.stringOp .add ⟨#[45]⟩ ⟨#[57, 50, 50, 51, 51, 55, 50, 48, 51, 54, 56, 53, 52, 55, 55, 53, 56, 48, 56]⟩).run Tryd.prog W = .ok (.string ⟨#[45, 57, 50, 50, 51, 51, 55, 50, 48, 51, 54, 56, 53, 52, 55, 55, 53, 56, 48, 56]⟩) W := fun W => add_str [45] [57, 50, 50, 51, 51, 55, 50, 48, 51, 54, 56, 53, 52, 55, 55, 53, 56, 48, 56] (by simp) W
  have hadd7 : ∀ W, (Op.stringOp .add ⟨#[45]⟩ ⟨#[57, 50, 50, 51, 51, 55, 50, 48, 51, 54, 56, 53, 52, 55, 55, 53, 56, 48, 55]⟩).run Tryd.prog W = .ok (.string ⟨#[45, 57, 50, 50, 51, 51, 55, 50, 48, 51, 54, 56, 53, 52, 55, 55, 53, 56, 48, 55]⟩) W := fun W => add_str [45] [57, 50, 50, 51, 51, 55, 50, 48, 51, 54, 56, 53, 52, 55, 55, 53, 56, 48, 55] (by simp) W
  have Hadd0 := Lib.hid hadd0
  have Hadd1 := Lib.hid hadd1
  clear hpr had hne hv hNb hval hlen hadd0 hadd1
  go_enter Tryd.func6, Tryd.ntmps6
  go_wp2_with fail
  refine (known_calls _ hp).mono ?_; rintro e w1 ⟨rfl, b⟩
  replace kB := kB.trans (b.mono kB.size); clear b hp
  go_upto_region 3 with (fail)
  go_cut [25] (fun s25 wx => s25 = .bool (decide (n = -9223372036854775808)) ∧ wx = w1)
  case first =>
    clear hsl hadd7 hadd8
    by_cases hm : n = -9223372036854775808
    · have hmb : (n == -9223372036854775808) = true := by simpa using hm
      have hd := Lib.hid (decide_eq_true hm)
      clear hm hN
      go_wp2_with fail
      go_meet
      exact ⟨by rw [hd.out], rfl⟩
    · have hmb : (n == -9223372036854775808) = false := by simpa using hm
      have hd := Lib.hid (decide_eq_false hm)
      clear hm hN
      go_wp2_with fail
      go_meet
      exact ⟨by rw [hd.out], rfl⟩
  case rest =>
  obtain ⟨rfl, rfl⟩ := hcut
  go_upto_if 25 with (fail)
  go_cut [0] (fun s0 wx => s0 = .int .i64 N ∧ wx = wc)
  case first =>
    clear hsl hadd7 hadd8
    by_cases hm : n = -9223372036854775808
    · rw [if_pos hm] at hN
      have hwr : IntKind.i64.wrap (n + 1) = n + 1 := IntWalk.i64_in _ (by omega)
      have HN := Lib.hid hN
      rw [decide_eq_true hm]
      clear hm hN
      go_wp2_with fail
      go_meet
      exact ⟨by rw [HN.out], rfl⟩
    · rw [if_neg hm] at hN
      have HN := Lib.hid hN
      rw [decide_eq_false hm]
      clear hm hN
      go_wp2_with fail
      go_meet
      exact ⟨by rw [HN.out], rfl⟩
  case rest =>
    obtain ⟨rfl, rfl⟩ := hcut
    clear hN hn1 hn2
    go_wp2_with fail
    refine (hnorm.out _).mono ?_; rintro e w2 ⟨rfl, b⟩
    replace kB := kB.trans (b.mono kB.size); clear b hnorm
    replace kB := kb_alloc kB (Nat.le_refl _) (.cells #[.int .i64 N, .int .i64 0] 23)
    have kd := DecAt.new w2 N 0
    obtain ⟨p0, p1, p2, p3, p4⟩ := kd
    go_wp2_with fail
    refine (hprint.out _).mono ?_; rintro e w3 ⟨rfl, b⟩
    replace kB := kB.trans (b.mono kB.size); clear b hprint p0 p1 p2 p3 p4
    go_wp2_with fail
    go_quiet (fail)
    replace kB := below_drewN kB nq
    generalize w3.drewN nq = W3 at *
    go_wp2_with fail
    go_loop [7, 9] (fun s7 s9 => ∃ i : Nat, i ≤ 8 ∧ (i : Int) ≤ z % 9 ∧ s9 = .int .i64 (i : Nat) ∧ s7 = .string (str (List.replicate i 48 ++ d))) (fun _ s9 => 8 - (intOf s9).toNat)
    case atStart => exact ⟨0, by omega, by omega, rfl, rfl⟩
    case round =>
      obtain ⟨i, hi8, hiz, rfl, rfl⟩ := hrel
      by_cases hlt : (i : Int) < z % 9
      · have h0 := Hadd0.out i hi8
        clear hadd7 hadd8
        go_wp2_with fail
        go_round
        case rel => exact ⟨i + 1, by omega, by omega, by go_num, rfl⟩
        case measure => simp [intOf]; omega
      · have h1 := Hadd1.out i hi8
        have hc1 := Lib.hid (hint.out i hi8)
        have hc2 := Lib.hid (huint.out i hi8)
        rw [hi1.out i, hzv.out i, hNv.out] at hc1
        rw [hi2.out i] at hc2
        clear hint huint hi1 hi2 hzv hNv Hadd0 Hadd1
        generalize hT : (45 :: (List.replicate i 48 ++ d)) = T at *
        generalize hT2 : (List.replicate i 48 ++ d) = T2 at *
        clear hT hT2
        go_wp2_with fail
        refine (hc1.out _).mono ?_; rintro e w4 ⟨rfl, b⟩
        replace kB := kB.trans (b.mono kB.size); clear b hc1
        unfold intV
        go_wp2_with fail
        refine (hc2.out _).mono ?_; rintro e w5 ⟨rfl, b⟩
        replace kB := kB.trans (b.mono kB.size); clear b hc2
        unfold intV
        go_wp2_with fail
        refine (i_more_t _).mono ?_; rintro e w6 ⟨rfl, b⟩
        replace kB := kB.trans (b.mono kB.size); clear b
        go_wp2_with fail
        refine (i_last_t _).mono ?_; rintro e w7 ⟨rfl, b⟩
        replace kB := kB.trans (b.mono kB.size); clear b
        go_wp2_with fail
        go_ret
        exact ⟨rfl, kB⟩

set_option maxHeartbeats 4000000 in
theorem ints_false (n z : Int) (w : World) (hp : Pl w) (hn1 : -9223372036854775808 ≤ n) (hn2 : n ≤ 9223372036854775807) (hz0 : 0 ≤ z) (hz1 : z ≤ 255)
    (N : Int) (hN : N = if n = -9223372036854775808 then n + 1 else n) (hneg : ¬ N < 0) :
    Calls Tryd.prog 6 #[.int .i64 n, .int .u8 z] w fun e w' => e = .returned (.bool true) ∧ Below w.heap.size w w' := by
  have kB := Below.refl w.heap.size w
  have hNb : N.natAbs ≤ big := by unfold big; split at hN <;> omega
  have hN1 : -9223372036854775808 ≤ N ∧ N ≤ 9223372036854775807 := by unfold big at hNb; omega
  obtain ⟨d, had, hne, hpr, hval, hlen⟩ := digits_of N hNb
  rw [show decide (N < 0) = false by simpa using Int.not_lt.1 hneg] at hpr
  have hnorm := Lib.hid (fun W => rnorm_calls N 0 W hN1.1 hN1.2 (by omega) (by omega))
  rw [norm_int N hNb, show rdecV (some (N, 0)) = .tuple #[dv2 N 0, .bool true] from rfl] at hnorm
  have hprint := Lib.hid (fun W => rprint_calls N 0 W hN1.1 hN1.2)
  rw [hpr, show sgn false ++ d = d from rfl] at hprint
  have hv : valN (vals d) ≤ big := by rw [hval]; exact hNb
  have hint := Lib.hid (fun (i : Nat) (hi : i ≤ 8) W => int_calls (List.replicate i 48 ++ d) W (by simp; omega))
  have huint := Lib.hid (fun (i : Nat) (hi : i ≤ 8) W => uint_calls (List.replicate i 48 ++ d) W (by simp; omega))
  have hi1 := Lib.hid (fun i : Nat => int_bare (zeros_dg had i) (zeros_ne hne i) (by rw [zeros_val]; exact hv))
  have hi2 := Lib.hid (fun i : Nat => uint_text (zeros_dg had i) (zeros_ne hne i) (by rw [zeros_val]; exact hv))
  have hNv : Hid (((N.natAbs : Nat) : Int) = N) := by show _ = _; omega
  have hzv := Lib.hid (fun i : Nat => zeros_val d i)
  rw [hval] at hzv
  have hadd0 : ∀ (i : Nat), i ≤ 8 → ∀ W, (Op.stringOp .add ⟨#[48]⟩ (str (List.replicate i 48 ++ d))).run Tryd.prog W = .ok (.string (str (List.replicate (i + 1) 48 ++ d))) W := fun i hi W => by
    have h := add_str [48] (List.replicate i 48 ++ d) (by simp; omega) W
    rwa [zeros_more] at h
  have hadd1 : ∀ (i : Nat), i ≤ 8 → ∀ W, (Op.stringOp .add ⟨#[]⟩ (str (List.replicate i 48 ++ d))).run Tryd.prog W = .ok (.string (str (List.replicate i 48 ++ d))) W := fun i hi W => add_str [] (List.replicate i 48 ++ d) (by simp; omega) W
  have hadd8 : ∀ W, (Op.stringOp .add ⟨#[]⟩ ⟨#[57, 50, 50, 51, 51, 55, 50, 48, 51, 54, 56, 53, 52, 55, 55, 53, 56, 48, 56]⟩).run Tryd.prog W = .ok (.string ⟨#[57, 50, 50, 51, 51, 55, 50, 48, 51, 54, 56, 53, 52, 55, 55, 53, 56, 48, 56]⟩) W := fun W => add_str [] [57, 50, 50, 51, 51, 55, 50, 48, 51, 54, 56, 53, 52, 55, 55, 53, 56, 48, 56] (by simp) W
  have hadd7 : ∀ W, (Op.stringOp .add ⟨#[]⟩ ⟨#[57, 50, 50, 51, 51, 55, 50, 48, 51, 54, 56, 53, 52, 55, 55, 53, 56, 48, 55]⟩).run Tryd.prog W = .ok (.string ⟨#[57, 50, 50, 51, 51, 55, 50, 48, 51, 54, 56, 53, 52, 55, 55, 53, 56, 48, 55]⟩) W := fun W => add_str [] [57, 50, 50, 51, 51, 55, 50, 48, 51, 54, 56, 53, 52, 55, 55, 53, 56, 48, 55] (by simp) W
  have Hadd0 := Lib.hid hadd0
  have Hadd1 := Lib.hid hadd1
  clear hpr had hne hv hNb hval hlen hadd0 hadd1
  go_enter Tryd.func6, Tryd.ntmps6
  go_wp2_with fail
  refine (known_calls _ hp).mono ?_; rintro e w1 ⟨rfl, b⟩
  replace kB := kB.trans (b.mono kB.size); clear b hp
  go_upto_region 3 with (fail)
  go_cut [25] (fun s25 wx => s25 = .bool (decide (n = -9223372036854775808)) ∧ wx = w1)
  case first =>
    clear hadd7 hadd8
    by_cases hm : n = -9223372036854775808
    · have hmb : (n == -9223372036854775808) = true := by simpa using hm
      have hd := Lib.hid (decide_eq_true hm)
      clear hm hN
      go_wp2_with fail
      go_meet
      exact ⟨by rw [hd.out], rfl⟩
    · have hmb : (n == -9223372036854775808) = false := by simpa using hm
      have hd := Lib.hid (decide_eq_false hm)
      clear hm hN
      go_wp2_with fail
      go_meet
      exact ⟨by rw [hd.out], rfl⟩
  case rest =>
  obtain ⟨rfl, rfl⟩ := hcut
  go_upto_if 25 with (fail)
  go_cut [0] (fun s0 wx => s0 = .int .i64 N ∧ wx = wc)
  case first =>
    clear hadd7 hadd8
    by_cases hm : n = -9223372036854775808
    · rw [if_pos hm] at hN
      have hwr : IntKind.i64.wrap (n + 1) = n + 1 := IntWalk.i64_in _ (by omega)
      have HN := Lib.hid hN
      rw [decide_eq_true hm]
      clear hm hN
      go_wp2_with fail
      go_meet
      exact ⟨by rw [HN.out], rfl⟩
    · rw [if_neg hm] at hN
      have HN := Lib.hid hN
      rw [decide_eq_false hm]
      clear hm hN
      go_wp2_with fail
      go_meet
      exact ⟨by rw [HN.out], rfl⟩
  case rest =>
    obtain ⟨rfl, rfl⟩ := hcut
    clear hN hn1 hn2
    go_wp2_with fail
    refine (hnorm.out _).mono ?_; rintro e w2 ⟨rfl, b⟩
    replace kB := kB.trans (b.mono kB.size); clear b hnorm
    replace kB := kb_alloc kB (Nat.le_refl _) (.cells #[.int .i64 N, .int .i64 0] 23)
    have kd := DecAt.new w2 N 0
    obtain ⟨p0, p1, p2, p3, p4⟩ := kd
    go_wp2_with fail
    refine (hprint.out _).mono ?_; rintro e w3 ⟨rfl, b⟩
    replace kB := kB.trans (b.mono kB.size); clear b hprint p0 p1 p2 p3 p4
    go_wp2_with fail
    go_loop [7, 9] (fun s7 s9 => ∃ i : Nat, i ≤ 8 ∧ (i : Int) ≤ z % 9 ∧ s9 = .int .i64 (i : Nat) ∧ s7 = .string (str (List.replicate i 48 ++ d))) (fun _ s9 => 8 - (intOf s9).toNat)
    case atStart => exact ⟨0, by omega, by omega, rfl, rfl⟩
    case round =>
      obtain ⟨i, hi8, hiz, rfl, rfl⟩ := hrel
      by_cases hlt : (i : Int) < z % 9
      · have h0 := Hadd0.out i hi8
        clear hadd7 hadd8
        go_wp2_with fail
        go_round
        case rel => exact ⟨i + 1, by omega, by omega, by go_num, rfl⟩
        case measure => simp [intOf]; omega
      · have h1 := Hadd1.out i hi8
        have hc1 := Lib.hid (hint.out i hi8)
        have hc2 := Lib.hid (huint.out i hi8)
        rw [hi1.out i, hzv.out i, hNv.out] at hc1
        rw [hi2.out i, hzv.out i, hNv.out] at hc2
        clear hint huint hi1 hi2 hzv hNv Hadd0 Hadd1
        generalize hT : (List.replicate i 48 ++ d) = T at *
        clear hT
        go_wp2_with fail
        refine (hc1.out _).mono ?_; rintro e w4 ⟨rfl, b⟩
        replace kB := kB.trans (b.mono kB.size); clear b hc1
        unfold intV
        go_wp2_with fail
        refine (hc2.out _).mono ?_; rintro e w5 ⟨rfl, b⟩
        replace kB := kB.trans (b.mono kB.size); clear b hc2
        unfold intV
        go_wp2_with fail
        refine (i_more_f _).mono ?_; rintro e w6 ⟨rfl, b⟩
        replace kB := kB.trans (b.mono kB.size); clear b
        go_wp2_with fail
        refine (i_last_f _).mono ?_; rintro e w7 ⟨rfl, b⟩
        replace kB := kB.trans (b.mono kB.size); clear b
        go_wp2_with fail
        go_ret
        exact ⟨rfl, kB⟩

theorem ints_walk (n z : Int) (w : World) (hp : Pl w) (hn1 : -9223372036854775808 ≤ n) (hn2 : n ≤ 9223372036854775807) (hz0 : 0 ≤ z) (hz1 : z ≤ 255) :
    Calls Tryd.prog 6 #[.int .i64 n, .int .u8 z] w fun e w' => e = .returned (.bool true) ∧ Below w.heap.size w w' := by
  by_cases h : (if n = -9223372036854775808 then n + 1 else n) < 0
  · exact ints_true n z w hp hn1 hn2 hz0 hz1 _ rfl h
  · exact ints_false n z w hp hn1 hn2 hz0 hz1 _ rfl h

end Go.Proofs.YtmbpldnclnahmaaDoor
