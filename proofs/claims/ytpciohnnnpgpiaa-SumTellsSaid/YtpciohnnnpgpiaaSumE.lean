/- The walks of what package sum calls of math/bits, at the numbers that it hands over: Len64, LeadingZeros64, Mul64 by ten, Add64, Div64. -/
import Derived.Test.YtpciohnnnpgpiaaSumD
import Derived.Lib.Tables
import Derived.Laws.Bits64b
import Derived.Laws.MathBits
import Derived.Laws.BitsAllLaws
import Derived.Laws.Externs
import Derived.Deep.Cut
set_option linter.unusedVariables false
set_option linter.unusedSimpArgs false
namespace Go.Proofs.Ytpciohnnnpgpiaa
open Go.RowKit Dc

set_option maxRecDepth 100000 in
theorem fold_len8 : ({ data := (([0, 1, 2, 2, 3, 3, 3, 3, 4, 4, 4, 4, 4, 4, 4, 4, 5, 5, 5, 5, 5, 5, 5, 5, 5, 5, 5, 5, 5, 5, 5, 5, 6, 6, 6, 6, 6, 6, 6, 6, 6, 6, 6, 6, 6, 6, 6, 6, 6, 6, 6, 6, 6, 6, 6, 6, 6, 6, 6, 6, 6, 6, 6, 6].append [7, 7, 7, 7, 7, 7, 7, 7, 7, 7, 7, 7, 7, 7, 7, 7, 7, 7, 7, 7, 7, 7, 7, 7, 7, 7, 7, 7, 7, 7, 7, 7, 7, 7, 7, 7, 7, 7, 7, 7, 7, 7, 7, 7, 7, 7, 7, 7, 7, 7, 7, 7, 7, 7, 7, 7, 7, 7, 7, 7, 7, 7, 7, 7]).append ([8, 8, 8, 8, 8, 8, 8, 8, 8, 8, 8, 8, 8, 8, 8, 8, 8, 8, 8, 8, 8, 8, 8, 8, 8, 8, 8, 8, 8, 8, 8, 8, 8, 8, 8, 8, 8, 8, 8, 8, 8, 8, 8, 8, 8, 8, 8, 8, 8, 8, 8, 8, 8, 8, 8, 8, 8, 8, 8, 8, 8, 8, 8, 8].append [8, 8, 8, 8, 8, 8, 8, 8, 8, 8, 8, 8, 8, 8, 8, 8, 8, 8, 8, 8, 8, 8, 8, 8, 8, 8, 8, 8, 8, 8, 8, 8, 8, 8, 8, 8, 8, 8, 8, 8, 8, 8, 8, 8, 8, 8, 8, 8, 8, 8, 8, 8, 8, 8, 8, 8, 8, 8, 8, 8, 8, 8, 8, 8])).toArray } : ByteArray) = Lib.len8tab := by decide +kernel
attribute [local go_sem ↓] fold_len8
theorem len8_all : ∀ n : Fin 128, (16 ≤ n.val → n.val < 32 → Lib.len8 (n.val : Int) = 5) ∧ (32 ≤ n.val → n.val < 64 → Lib.len8 (n.val : Int) = 6) ∧ (64 ≤ n.val → Lib.len8 (n.val : Int) = 7) := by decide +kernel
theorem len8_at {q K : Nat} (h1 : 2 ^ K ≤ q) (h2 : q < 2 ^ (K + 1)) (hK : K = 4 ∨ K = 5 ∨ K = 6) : Lib.len8 (q : Int) = ((K + 1 : Nat) : Int) := by
  have hq : q < 128 := by rcases hK with rfl | rfl | rfl <;> omega
  obtain ⟨a, b, c⟩ := len8_all ⟨q, hq⟩
  rcases hK with rfl | rfl | rfl
  · exact a h1 h2
  · exact b h1 h2
  · exact c h1

set_option maxRecDepth 1000000 in
set_option maxHeartbeats 4000000 in
theorem len64_calls (y L : Nat) (w : World) (h1 : 2 ^ L ≤ y) (h2 : y < 2 ^ (L + 1)) (hL : 60 ≤ L) (hL2 : L ≤ 62) :
    Calls Try.prog 57 #[.int .u64 (y : Nat)] w fun e w' => e = .returned (.int .i64 ((L + 1 : Nat) : Int)) ∧ w = w' := by
  obtain ⟨K, rfl⟩ : ∃ K, L = 56 + K := ⟨L - 56, by omega⟩
  have hq1 : 2 ^ K ≤ y / 72057594037927936 := (Nat.le_div_iff_mul_le (by omega)).2 (by rw [Nat.pow_add] at h1; omega)
  have hq2 : y / 72057594037927936 < 2 ^ (K + 1) := (Nat.div_lt_iff_lt_mul (by omega)).2 (by rw [show 56 + K + 1 = (K + 1) + 56 by omega, Nat.pow_add] at h2; omega)
  have hK : K = 4 ∨ K = 5 ∨ K = 6 := by omega
  have hr : 1152921504606846976 ≤ y ∧ y < 9223372036854775808 := by rcases hK with rfl | rfl | rfl <;> omega
  have hb : Hid (Lib.len8 ((y : Int) / 4294967296 / 65536 / 256) = ((K + 1 : Nat) : Int)) := by
    show _ = _
    rw [← len8_at hq1 hq2 hK]; congr 1; omega
  obtain ⟨r1, r2⟩ := hr
  have HK : K ≤ 6 := by omega
  clear hq1 hq2 h1 h2 hL hL2 hK
  obtain ⟨Y, hY⟩ : ∃ Y : Int, Y = y := ⟨_, rfl⟩
  have q1 : 1152921504606846976 ≤ Y := by omega
  have q2 : Y < 9223372036854775808 := by omega
  rw [← hY] at hb ⊢
  clear r1 r2 hY
  have hix : 0 ≤ Y / 4294967296 / 65536 / 256 ∧ Y / 4294967296 / 65536 / 256 < (Lib.len8tab.size : Int) := by rw [Lib.len8tab_size]; omega
  have hget : Hid (∀ h, ((Lib.len8tab[(Y / 4294967296 / 65536 / 256).toNat]'h).toNat : Int) = ((K + 1 : Nat) : Int)) := fun h => by
    rw [← hb.out]
    unfold Lib.len8
    rw [getElem?_pos Lib.len8tab _ h]
    rfl
  go_enter Try.func57, Try.ntmps57
  rw [fold_len8]
  go_wp2_with fail
  go_ret
  refine ⟨ret_int ?_, rfl⟩
  rw [hget.out]
  unfold wrap64
  omega

theorem lz64_calls (y L : Nat) (w : World) (h1 : 2 ^ L ≤ y) (h2 : y < 2 ^ (L + 1)) (hL : 60 ≤ L) (hL2 : L ≤ 62) :
    Calls Try.prog 56 #[.int .u64 (y : Nat)] w fun e w' => e = .returned (.int .i64 ((63 - L : Nat) : Int)) ∧ w = w' := by
  have hc := Lib.hid (len64_calls y L w h1 h2 hL hL2)
  clear h1 h2
  go_enter Try.func56, Try.ntmps56
  go_wp2_with fail
  refine hc.out.mono ?_; rintro e w1 ⟨rfl, rfl⟩
  go_wp2_with fail
  go_ret
  refine ⟨ret_int ?_, rfl⟩
  omega

theorem mul_ten (X : Int) (h0 : 0 ≤ X) (h1 : X < 9223372036854775808) : (10 : Int) * X = 10 * X := rfl
set_option maxRecDepth 100000 in
set_option maxHeartbeats 4000000 in
theorem mul64_calls (x : Nat) (w : World) (hx : x < 9223372036854775808) :
    Calls Try.prog 53 #[.int .u64 (x : Nat), .int .u64 10] w fun e w' => e = .returned (.tuple #[.int .u64 ((10 * x / 18446744073709551616 : Nat) : Int), .int .u64 ((10 * x % 18446744073709551616 : Nat) : Int)]) ∧ w = w' := by
  obtain ⟨X, hX⟩ : ∃ X : Int, X = x := ⟨_, rfl⟩
  have h0 : 0 ≤ X := by omega
  have h1 : X < 9223372036854775808 := by omega
  have e1 : ((10 * x / 18446744073709551616 : Nat) : Int) = 10 * X / 18446744073709551616 := by omega
  have e2 : ((10 * x % 18446744073709551616 : Nat) : Int) = 10 * X % 18446744073709551616 := by omega
  rw [e1, e2, ← hX]
  clear e1 e2 hX hx
  have hm := and_low32 X h0 (by omega)
  have hm2 : ∀ z : Int, 0 ≤ z → z < 18446744073709551616 → bits .and .u64 z 4294967295 = z % 4294967296 := and_low32
  go_enter Try.func53, Try.ntmps53
  go_wp2_with fail
  go_ret2
  have ha := and_low32 (X / 4294967296 * 10 + X % 4294967296 * 10 / 4294967296) (by omega) (by omega)
  refine ⟨?_, rfl⟩
  simp only [ha, IntKind.wrap_u64]
  have hT : X / 4294967296 * 10 + X % 4294967296 * 10 / 4294967296 = 10 * X / 4294967296 := by omega
  rw [hT]
  have hz : 10 * X / 4294967296 % 4294967296 % 18446744073709551616 / 4294967296 = 0 := by
    generalize 10 * X / 4294967296 = z
    rw [Int.emod_eq_of_lt (a := z % 4294967296) (by omega) (by omega)]
    exact Int.ediv_eq_zero_of_lt (by omega) (by omega)
  rw [hz]
  have e1 : (10 * X / 4294967296 / 4294967296 + 0) % 18446744073709551616 = 10 * X / 18446744073709551616 := by
    rw [Int.add_zero, Int.ediv_ediv_of_nonneg (by decide), Int.emod_eq_of_lt (by omega) (by omega)]
    rfl
  have e2 : (X * 10) % 18446744073709551616 = 10 * X % 18446744073709551616 := by omega
  rw [e1, e2]
  rfl

/-- hi, lo as one number -/
theorem or_low (H Lo : Int) (k : Nat) (m : Int) (hm : m = 2 ^ k) (hk : k ≤ 3) (h0 : 0 ≤ H) (h1 : H ≤ 4) (h2 : 0 ≤ Lo) (h3 : Lo < m) : bits .or .u64 (H * m) Lo = H * m + Lo := by
  subst hm
  have hp : (2 : Int) ^ k = ((2 ^ k : Nat) : Int) := by simp
  obtain ⟨a, rfl⟩ : ∃ a : Nat, H = a := ⟨H.toNat, by omega⟩
  obtain ⟨b, rfl⟩ : ∃ b : Nat, Lo = b := ⟨Lo.toNat, by omega⟩
  rw [hp] at h3 ⊢
  have h8 : 2 ^ k ≤ 8 := by
    have : 2 ^ k ≤ 2 ^ 3 := Nat.pow_le_pow_right (by omega) hk
    omega
  have hb : b < 2 ^ k := by omega
  have hm : a * 2 ^ k ≤ 4 * 8 := Nat.mul_le_mul (by omega) h8
  rw [← Int.natCast_mul, bits_or_u64_nat _ _ (by omega) (by omega), Nat.mul_comm, ← Nat.two_pow_add_eq_or_of_lt hb]
  simp

set_option maxRecDepth 100000 in
set_option maxHeartbeats 4000000 in
theorem div64_small (Lo Y : Int) (w : World) (h0 : 0 ≤ Lo) (h1 : Lo < 18446744073709551616) (hy0 : 0 < Y) (hy1 : Y < 9223372036854775808) :
    Calls Try.prog 55 #[.int .u64 0, .int .u64 Lo, .int .u64 Y] w fun e w' => e = .returned (.tuple #[.int .u64 (Lo / Y), .int .u64 (Lo % Y)]) ∧ Below w.heap.size w w' := by
  have hyb : (Y == 0) = false := by simpa using (by omega : ¬ Y = 0)
  have hle : decide (Y ≤ 0) = false := by simp; omega
  have hyn : ¬ Y = 0 := by omega
  have ht : Lo.tdiv Y = Lo / Y := Int.tdiv_eq_ediv_of_nonneg h0
  have ht2 : Lo.tmod Y = Lo % Y := Int.tmod_eq_emod_of_nonneg h0
  have q1 : 0 ≤ Lo / Y := Int.ediv_nonneg h0 (by omega)
  have q2 : Lo / Y ≤ Lo := Int.ediv_le_self _ h0
  have q3 : 0 ≤ Lo % Y := Int.emod_nonneg _ hyn
  have q4 : Lo % Y < Y := Int.emod_lt_of_pos _ hy0
  go_enter Try.func55, Try.ntmps55
  go_wp2_with fail
  go_quiet (fail)
  go_wp2_with fail
  go_ret2
  exact ⟨by simp, below_drewN (Below.refl _ _) _⟩

theorem kn_gt {q Y M : Int} (hY : 0 < Y) (h : M < q * Y) : M / Y < q := Int.ediv_lt_of_lt_mul hY h
theorem kn_le {q Y M : Int} (hY : 0 < Y) (h : q * Y ≤ M) : q ≤ M / Y := Int.le_ediv_of_mul_le hY h
/-- the first guess is no less -/
theorem kn_first {D y1 y0 u0 : Int} (h1 : 0 < y1) (h2 : 0 ≤ y0) (h3 : 0 ≤ D) (h4 : 0 ≤ u0) (h5 : u0 < 4294967296) : (D * 4294967296 + u0) / (y1 * 4294967296 + y0) ≤ D / y1 := by
  refine kn_le h1 ?_
  have hY : 0 < y1 * 4294967296 + y0 := by omega
  have hq : 0 ≤ (D * 4294967296 + u0) / (y1 * 4294967296 + y0) := Int.ediv_nonneg (by omega) (by omega)
  have hm := Int.ediv_mul_le (D * 4294967296 + u0) (show y1 * 4294967296 + y0 ≠ 0 by omega)
  generalize (D * 4294967296 + u0) / (y1 * 4294967296 + y0) = Q at *
  have h6 := Int.mul_nonneg hq h2
  rw [Int.mul_add, ← Int.mul_assoc] at hm
  generalize Q * y1 = p at *
  generalize Q * y0 = p0 at *
  omega
/-- the last step, whose numbers may run over -/
theorem kn_wrap {A u B R m : Int} (h : A + u - B = R * m) (h0 : 0 ≤ R) (hm : 0 < m) (h1 : R * m < 18446744073709551616) : IntKind.u64.wrap (IntKind.u64.wrap (IntKind.u64.wrap A + u) - IntKind.u64.wrap B) / m = R := by
  rw [IntKind.wrap_u64, IntKind.wrap_u64, IntKind.wrap_u64, IntKind.wrap_u64, Int.emod_add_emod, ← Int.sub_emod, h, Int.emod_eq_of_lt (Int.mul_nonneg h0 (by omega)) h1, Int.mul_ediv_cancel _ (by omega)]
/-- what is left, moved up as the divisor is -/
theorem kn_rest {N Y m M Q : Int} (hm : 0 < m) (hY : 0 < Y) (hM : M = N * m) (hQ : Q = M / (Y * m)) : Q = N / Y ∧ M - Q * (Y * m) = N % Y * m := by
  subst hM
  have e : N * m / (Y * m) = N / Y := Int.mul_ediv_mul_of_pos_left N Y hm
  rw [e] at hQ
  refine ⟨hQ, ?_⟩
  rw [hQ, ← Int.mul_assoc, ← Int.sub_mul, Int.emod_def, Int.mul_comm Y]

set_option maxRecDepth 100000 in
set_option maxHeartbeats 4000000 in
theorem div64_s1 (H Lo Y : Int) (w : World) (h0 : 0 ≤ Lo) (h1 : Lo < 18446744073709551616) (hh : 0 < H) (hh4 : H ≤ 4) (hy0 : 4611686018427387904 ≤ Y) (hy1 : Y < 9223372036854775808) (hn10 : H * 18446744073709551616 + Lo < 10 * Y)
    (hz : Calls Try.prog 56 #[.int .u64 Y] w fun e w' => e = .returned (.int .i64 1) ∧ w = w') :
    Calls Try.prog 55 #[.int .u64 H, .int .u64 Lo, .int .u64 Y] w fun e w' => e = .returned (.tuple #[.int .u64 ((H * 18446744073709551616 + Lo) / Y), .int .u64 ((H * 18446744073709551616 + Lo) % Y)]) ∧ Below w.heap.size w w' := by
  have hor := or_low H (Lo / 9223372036854775808) 1 2 (by decide) (by omega) (by omega) hh4 (by omega) (by omega)
  obtain ⟨u, hu⟩ : ∃ u, H * 2 + Lo / 9223372036854775808 = u := ⟨_, rfl⟩
  obtain ⟨U, hU⟩ : ∃ U, Lo * 2 % 18446744073709551616 = U := ⟨_, rfl⟩
  obtain ⟨y1, e1⟩ : ∃ y1, Y * 2 / 4294967296 = y1 := ⟨_, rfl⟩
  obtain ⟨y0, e0⟩ : ∃ y0, Y * 2 % 4294967296 = y0 := ⟨_, rfl⟩
  obtain ⟨u1, f1⟩ : ∃ u1, U / 4294967296 = u1 := ⟨_, rfl⟩
  obtain ⟨u0, f0⟩ : ∃ u0, U % 4294967296 = u0 := ⟨_, rfl⟩
  have ha1 : bits .and .u64 (Y * 2) 4294967295 = y0 := by rw [and_low32 _ (by omega) (by omega), e0]
  have ha2 : bits .and .u64 U 4294967295 = u0 := by rw [and_low32 _ (by omega) (by omega), f0]
  have hwU : IntKind.u64.wrap (Lo * 2) = U := by rw [IntKind.wrap_u64, hU]
  rw [hu] at hor
  have by1 : 2147483648 ≤ y1 ∧ y1 < 4294967296 := by omega
  have by0 : 0 ≤ y0 ∧ y0 < 4294967296 := by omega
  have bu : 0 ≤ u ∧ u < 40 := by omega
  have bu1 : 0 ≤ u1 ∧ u1 < 4294967296 := by omega
  have bu0 : 0 ≤ u0 ∧ u0 < 4294967296 := by omega
  have hY : Hid (Y * 2 = y1 * 4294967296 + y0) := by show _ = _; omega
  obtain ⟨D, hD⟩ : ∃ D, u * 4294967296 + u1 = D := ⟨_, rfl⟩
  have bD : 0 ≤ D ∧ D < 171798691840 := by omega
  have hM : Hid (D * 4294967296 + u0 = (H * 18446744073709551616 + Lo) * 2) := by show _ = _; omega
  have hq0 : u / y1 = 0 := Int.ediv_eq_zero_of_lt bu.1 (by omega)
  have hf := kn_first (D := D) (y1 := y1) (y0 := y0) (u0 := u0) (by omega) by0.1 bD.1 bu0.1 bu0.2
  have hq80 : D / y1 < 80 := kn_gt (by omega) (by omega)
  have hqn : 0 ≤ D / y1 := Int.ediv_nonneg bD.1 (by omega)
  have hdm := Int.emod_add_mul_ediv D y1
  have hr0 := Int.emod_nonneg D (show y1 ≠ 0 by omega)
  have hr1 := Int.emod_lt_of_pos D (show 0 < y1 by omega)
  obtain ⟨q, hq⟩ : ∃ q, D / y1 = q := ⟨_, rfl⟩
  obtain ⟨p, hp⟩ : ∃ p, q * y1 = p := ⟨_, rfl⟩
  obtain ⟨r, hr⟩ : ∃ r, D % y1 = r := ⟨_, rfl⟩
  rw [hq, Int.mul_comm y1, hp, hr] at hdm
  rw [hr] at hr0 hr1
  rw [hq] at hf hq80 hqn
  have hDp : D - p = r := by omega
  have bp : 0 ≤ p ∧ p ≤ D := by omega
  have Hf := Lib.hid hf
  have Hdm := Lib.hid (show D = q * y1 + r by rw [hp]; omega)
  have HU := Lib.hid (⟨hu, hU⟩ : _ ∧ _)
  have Hz := Lib.hid hz
  have Hn := Lib.hid hn10
  have hsubD : u * 4294967296 + u1 = D := hD
  obtain ⟨by1a, by1b⟩ := by1
  obtain ⟨by0a, by0b⟩ := by0
  obtain ⟨bua, bub⟩ := bu
  obtain ⟨bu1a, bu1b⟩ := bu1
  obtain ⟨bu0a, bu0b⟩ := bu0
  obtain ⟨bDa, bDb⟩ := bD
  obtain ⟨bpa, bpb⟩ := bp
  clear hz hf hu hU hdm hr f0 e0 hn10
  go_enter Try.func55, Try.ntmps55
  go_wp2_with fail
  refine Hz.out.mono ?_; rintro e w1 ⟨rfl, rfl⟩
  go_wp2_with fail
  go_loop [15, 16] (fun s15 s16 => s15 = .int .u64 0 ∧ s16 = .int .u64 u) (fun _ _ => 0)
  case atStart => exact ⟨by rw [hq0], rfl⟩
  case round =>
    obtain ⟨rfl, rfl⟩ := hrel
    have hno : ¬ (4294967296 * u + u1 < 0) := by omega
    go_wp2_with fail
    go_loop [16, 18] (fun s16 s18 => ∃ q r : Int, 0 ≤ q ∧ q < 80 ∧ 0 ≤ r ∧ r < 4294967296 ∧ s18 = .int .u64 q ∧ s16 = .int .u64 r ∧ Hid (D = q * y1 + r ∧ (D * 4294967296 + u0) / (y1 * 4294967296 + y0) ≤ q)) (fun _ s18 => (intOf s18).toNat)
    case atStart => exact ⟨q, r, hqn, hq80, hr0, by omega, rfl, rfl, Hdm.out, Hf.out⟩
    case round =>
      clear hqn hq80 hr0 hr1 Hdm Hf hDp hp hq bpa bpb
      obtain ⟨q, r, hqn, hq80, hr0, hr1, rfl, rfl, HR⟩ := hrel
      obtain ⟨hdm, hfq⟩ := HR.out
      obtain ⟨p0, hp0⟩ : ∃ p0, q * y0 = p0 := ⟨_, rfl⟩
      have bp0 : 0 ≤ p0 := by rw [← hp0]; exact Int.mul_nonneg hqn by0a
      have bp1 : p0 ≤ 80 * 4294967296 := by rw [← hp0]; exact Int.mul_le_mul (by omega) (by omega) by0a (by omega)
      have hYp : 0 < y1 * 4294967296 + y0 := by omega
      have hqY : q * (y1 * 4294967296 + y0) = q * y1 * 4294967296 + p0 := by rw [Int.mul_add, hp0, ← Int.mul_assoc]
      have hfin : Hid (p0 ≤ 4294967296 * r + u0 → q = (H * 18446744073709551616 + Lo) / Y ∧ (D * 4294967296 + u0) - q * (Y * 2) = (H * 18446744073709551616 + Lo) % Y * 2) := fun hle => by
        have h1 : q * (y1 * 4294967296 + y0) ≤ D * 4294967296 + u0 := by rw [hqY]; generalize q * y1 = z at *; omega
        have h2 := kn_le hYp h1
        have h3 : q = (D * 4294967296 + u0) / (Y * 2) := by rw [hY.out]; omega
        exact kn_rest (by decide) (by omega) hM.out h3
      have hmore : Hid (¬ p0 ≤ 4294967296 * r + u0 → D = (q - 1) * y1 + (r + y1) ∧ (D * 4294967296 + u0) / (y1 * 4294967296 + y0) ≤ q - 1) := fun hgt => by
        refine ⟨by rw [Int.sub_mul]; omega, ?_⟩
        have h1 : D * 4294967296 + u0 < q * (y1 * 4294967296 + y0) := by rw [hqY]; generalize q * y1 = z at *; omega
        have := kn_gt hYp h1
        omega
      clear hdm hfq hqY hYp HR
      by_cases hle : p0 ≤ 4294967296 * r + u0
      · have Hfin := Lib.hid (hfin.out hle)
        have hnot : ¬ (4294967296 * r + u0 < p0) := by omega
        clear hfin hmore
        go_wp2_with fail
        go_ret2
        obtain ⟨g1, g2⟩ := Hfin.out
        have hYpos : 0 < Y := by omega
        have g3 := Int.emod_nonneg (H * 18446744073709551616 + Lo) (show Y ≠ 0 by omega)
        have g4 := Int.emod_lt_of_pos (H * 18446744073709551616 + Lo) hYpos
        refine ⟨?_, Below.refl _ _⟩
        rw [kn_wrap g2 g3 (by decide) (by omega), ← g1]
        rfl
      · have Hmore := Lib.hid (hmore.out hle)
        have hyes : 4294967296 * r + u0 < p0 := by omega
        have hq1 : 1 ≤ q := by
          by_cases h : q = 0
          · rw [h, Int.zero_mul] at hp0; omega
          · omega
        clear hfin hmore hle
        by_cases hbr : 4294967296 ≤ r + y1
        · have hfin : Hid (q - 1 = (H * 18446744073709551616 + Lo) / Y ∧ (D * 4294967296 + u0) - (q - 1) * (Y * 2) = (H * 18446744073709551616 + Lo) % Y * 2) := by
            obtain ⟨g1, g2⟩ := Hmore.out
            have hYp : 0 < y1 * 4294967296 + y0 := by omega
            have hqY : (q - 1) * (y1 * 4294967296 + y0) = (q - 1) * y1 * 4294967296 + (q - 1) * y0 := by rw [Int.mul_add, ← Int.mul_assoc]
            have hb : (q - 1) * y0 ≤ 80 * 4294967296 := Int.mul_le_mul (by omega) (by omega) by0a (by omega)
            have h1 : (q - 1) * (y1 * 4294967296 + y0) ≤ D * 4294967296 + u0 := by
              rw [hqY]
              generalize (q - 1) * y1 = z at *
              generalize (q - 1) * y0 = z0 at *
              omega
            have h2 := kn_le hYp h1
            have h3 : q - 1 = (D * 4294967296 + u0) / (Y * 2) := by rw [hY.out]; omega
            exact kn_rest (by decide) (by omega) hM.out h3
          clear Hmore
          go_wp2_with fail
          go_ret2
          obtain ⟨g1, g2⟩ := hfin.out
          have hYpos : 0 < Y := by omega
          have g3 := Int.emod_nonneg (H * 18446744073709551616 + Lo) (show Y ≠ 0 by omega)
          have g4 := Int.emod_lt_of_pos (H * 18446744073709551616 + Lo) hYpos
          refine ⟨?_, Below.refl _ _⟩
          rw [kn_wrap g2 g3 (by decide) (by omega), ← g1]
          rfl
        · have hnb : r + y1 < 4294967296 := by omega
          clear hbr
          go_wp2_with fail
          go_round
          case rel => exact ⟨q - 1, r + y1, by omega, by omega, by omega, hnb, rfl, rfl, Hmore.out⟩
          case measure => simp [intOf]; omega

end Go.Proofs.Ytpciohnnnpgpiaa
