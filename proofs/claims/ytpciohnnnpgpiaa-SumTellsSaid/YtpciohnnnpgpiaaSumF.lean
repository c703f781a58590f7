/- The walks of math/bits' Div64 at the other two places that a divisor is moved up by; of Div64 as package sum calls it; of (digits).over. -/
import Derived.Test.YtpciohnnnpgpiaaSumE
set_option linter.unusedVariables false
set_option linter.unusedSimpArgs false
namespace Go.Proofs.Ytpciohnnnpgpiaa
open Go.RowKit Dc

set_option maxRecDepth 100000 in
set_option maxHeartbeats 4000000 in
theorem div64_s2 (H Lo Y : Int) (w : World) (h0 : 0 ≤ Lo) (h1 : Lo < 18446744073709551616) (hh : 0 < H) (hh4 : H ≤ 4) (hy0 : 2305843009213693952 ≤ Y) (hy1 : Y < 4611686018427387904) (hn10 : H * 18446744073709551616 + Lo < 10 * Y)
    (hz : Calls Try.prog 56 #[.int .u64 Y] w fun e w' => e = .returned (.int .i64 2) ∧ w = w') :
    Calls Try.prog 55 #[.int .u64 H, .int .u64 Lo, .int .u64 Y] w fun e w' => e = .returned (.tuple #[.int .u64 ((H * 18446744073709551616 + Lo) / Y), .int .u64 ((H * 18446744073709551616 + Lo) % Y)]) ∧ Below w.heap.size w w' := by
  have hor := or_low H (Lo / 4611686018427387904) 2 4 (by decide) (by omega) (by omega) hh4 (by omega) (by omega)
  obtain ⟨u, hu⟩ : ∃ u, H * 4 + Lo / 4611686018427387904 = u := ⟨_, rfl⟩
  obtain ⟨U, hU⟩ : ∃ U, Lo * 4 % 18446744073709551616 = U := ⟨_, rfl⟩
  obtain ⟨y1, e1⟩ : ∃ y1, Y * 4 / 4294967296 = y1 := ⟨_, rfl⟩
  obtain ⟨y0, e0⟩ : ∃ y0, Y * 4 % 4294967296 = y0 := ⟨_, rfl⟩
  obtain ⟨u1, f1⟩ : ∃ u1, U / 4294967296 = u1 := ⟨_, rfl⟩
  obtain ⟨u0, f0⟩ : ∃ u0, U % 4294967296 = u0 := ⟨_, rfl⟩
  have ha1 : bits .and .u64 (Y * 4) 4294967295 = y0 := by rw [and_low32 _ (by omega) (by omega), e0]
  have ha2 : bits .and .u64 U 4294967295 = u0 := by rw [and_low32 _ (by omega) (by omega), f0]
  have hwU : IntKind.u64.wrap (Lo * 4) = U := by rw [IntKind.wrap_u64, hU]
  rw [hu] at hor
  have by1 : 2147483648 ≤ y1 ∧ y1 < 4294967296 := by omega
  have by0 : 0 ≤ y0 ∧ y0 < 4294967296 := by omega
  have bu : 0 ≤ u ∧ u < 40 := by omega
  have bu1 : 0 ≤ u1 ∧ u1 < 4294967296 := by omega
  have bu0 : 0 ≤ u0 ∧ u0 < 4294967296 := by omega
  have hY : Hid (Y * 4 = y1 * 4294967296 + y0) := by show _ = _; omega
  obtain ⟨D, hD⟩ : ∃ D, u * 4294967296 + u1 = D := ⟨_, rfl⟩
  have bD : 0 ≤ D ∧ D < 171798691840 := by omega
  have hM : Hid (D * 4294967296 + u0 = (H * 18446744073709551616 + Lo) * 4) := by show _ = _; omega
  have hq0 : u / y1 = 0 := Int.ediv_eq_zero_of_lt bu.1 (by omega)
  have hf := kn_first (D := D) (y1 := y1) (y0 := y0) (u0 := u0) (by omega) by0.1 bD.1 bu0.1 bu0.2
  have hq80 : D / y1 < 80 := kn_gt (by omega) (by omega)
  have hqn : 0 ≤ D / y1 := Int.ediv_nonneg bD.1 (by omega)
  have hdm := Int.emod_add_mul_ediv D y1
  have hr0 := Int.emod_nonneg D (show y1 ≠ 0 by omega)
  have hr1 := Int.emod_lt_of_pos D (show 0 < y1 by omega)
  obtain ⟨q, hq⟩ : ∃ q, D / y1 = q := ⟨_, rfl⟩
  obtain ⟨p, hp⟩ : ∃ p, q * y1 = p := ⟨_, rfl⟩
  obtain ⟨r, hr⟩ : ∃ r, D % y1 = r := ⟨_, rfl⟩
  rw [hq, Int.mul_comm y1, hp, hr] at hdm
  rw [hr] at hr0 hr1
  rw [hq] at hf hq80 hqn
  have hDp : D - p = r := by omega
  have bp : 0 ≤ p ∧ p ≤ D := by omega
  have Hf := Lib.hid hf
  have Hdm := Lib.hid (show D = q * y1 + r by rw [hp]; omega)
  have HU := Lib.hid (⟨hu, hU⟩ : _ ∧ _)
  have Hz := Lib.hid hz
  have Hn := Lib.hid hn10
  have hsubD : u * 4294967296 + u1 = D := hD
  obtain ⟨by1a, by1b⟩ := by1
  obtain ⟨by0a, by0b⟩ := by0
  obtain ⟨bua, bub⟩ := bu
  obtain ⟨bu1a, bu1b⟩ := bu1
  obtain ⟨bu0a, bu0b⟩ := bu0
  obtain ⟨bDa, bDb⟩ := bD
  obtain ⟨bpa, bpb⟩ := bp
  clear hz hf hu hU hdm hr f0 e0 hn10
  go_enter Try.func55, Try.ntmps55
  go_wp2_with fail
  refine Hz.out.mono ?_; rintro e w1 ⟨rfl, rfl⟩
  go_wp2_with fail
  go_loop [15, 16] (fun s15 s16 => s15 = .int .u64 0 ∧ s16 = .int .u64 u) (fun _ _ => 0)
  case atStart => exact ⟨by rw [hq0], rfl⟩
  case round =>
    obtain ⟨rfl, rfl⟩ := hrel
    have hno : ¬ (4294967296 * u + u1 < 0) := by omega
    go_wp2_with fail
    go_loop [16, 18] (fun s16 s18 => ∃ q r : Int, 0 ≤ q ∧ q < 80 ∧ 0 ≤ r ∧ r < 4294967296 ∧ s18 = .int .u64 q ∧ s16 = .int .u64 r ∧ Hid (D = q * y1 + r ∧ (D * 4294967296 + u0) / (y1 * 4294967296 + y0) ≤ q)) (fun _ s18 => (intOf s18).toNat)
    case atStart => exact ⟨q, r, hqn, hq80, hr0, by omega, rfl, rfl, Hdm.out, Hf.out⟩
    case round =>
      clear hqn hq80 hr0 hr1 Hdm Hf hDp hp hq bpa bpb
      obtain ⟨q, r, hqn, hq80, hr0, hr1, rfl, rfl, HR⟩ := hrel
      obtain ⟨hdm, hfq⟩ := HR.out
      obtain ⟨p0, hp0⟩ : ∃ p0, q * y0 = p0 := ⟨_, rfl⟩
      have bp0 : 0 ≤ p0 := by rw [← hp0]; exact Int.mul_nonneg hqn by0a
      have bp1 : p0 ≤ 80 * 4294967296 := by rw [← hp0]; exact Int.mul_le_mul (by omega) (by omega) by0a (by omega)
      have hYp : 0 < y1 * 4294967296 + y0 := by omega
      have hqY : q * (y1 * 4294967296 + y0) = q * y1 * 4294967296 + p0 := by rw [Int.mul_add, hp0, ← Int.mul_assoc]
      have hfin : Hid (p0 ≤ 4294967296 * r + u0 → q = (H * 18446744073709551616 + Lo) / Y ∧ (D * 4294967296 + u0) - q * (Y * 4) = (H * 18446744073709551616 + Lo) % Y * 4) := fun hle => by
        have h1 : q * (y1 * 4294967296 + y0) ≤ D * 4294967296 + u0 := by rw [hqY]; generalize q * y1 = z at *; omega
        have h2 := kn_le hYp h1
        have h3 : q = (D * 4294967296 + u0) / (Y * 4) := by rw [hY.out]; omega
        exact kn_rest (by decide) (by omega) hM.out h3
      have hmore : Hid (¬ p0 ≤ 4294967296 * r + u0 → D = (q - 1) * y1 + (r + y1) ∧ (D * 4294967296 + u0) / (y1 * 4294967296 + y0) ≤ q - 1) := fun hgt => by
        refine ⟨by rw [Int.sub_mul]; omega, ?_⟩
        have h1 : D * 4294967296 + u0 < q * (y1 * 4294967296 + y0) := by rw [hqY]; generalize q * y1 = z at *; omega
        have := kn_gt hYp h1
        omega
      clear hdm hfq hqY hYp HR
      by_cases hle : p0 ≤ 4294967296 * r + u0
      · have Hfin := Lib.hid (hfin.out hle)
        have hnot : ¬ (4294967296 * r + u0 < p0) := by omega
        clear hfin hmore
        go_wp2_with fail
        go_ret2
        obtain ⟨g1, g2⟩ := Hfin.out
        have hYpos : 0 < Y := by omega
        have g3 := Int.emod_nonneg (H * 18446744073709551616 + Lo) (show Y ≠ 0 by omega)
        have g4 := Int.emod_lt_of_pos (H * 18446744073709551616 + Lo) hYpos
        refine ⟨?_, Below.refl _ _⟩
        rw [kn_wrap g2 g3 (by decide) (by omega), ← g1]
        rfl
      · have Hmore := Lib.hid (hmore.out hle)
        have hyes : 4294967296 * r + u0 < p0 := by omega
        have hq1 : 1 ≤ q := by
          by_cases h : q = 0
          · rw [h, Int.zero_mul] at hp0; omega
          · omega
        clear hfin hmore hle
        by_cases hbr : 4294967296 ≤ r + y1
        · have hfin : Hid (q - 1 = (H * 18446744073709551616 + Lo) / Y ∧ (D * 4294967296 + u0) - (q - 1) * (Y * 4) = (H * 18446744073709551616 + Lo) % Y * 4) := by
            obtain ⟨g1, g2⟩ := Hmore.out
            have hYp : 0 < y1 * 4294967296 + y0 := by omega
            have hqY : (q - 1) * (y1 * 4294967296 + y0) = (q - 1) * y1 * 4294967296 + (q - 1) * y0 := by rw [Int.mul_add, ← Int.mul_assoc]
            have hb : (q - 1) * y0 ≤ 80 * 4294967296 := Int.mul_le_mul (by omega) (by omega) by0a (by omega)
            have h1 : (q - 1) * (y1 * 4294967296 + y0) ≤ D * 4294967296 + u0 := by
              rw [hqY]
              generalize (q - 1) * y1 = z at *
              generalize (q - 1) * y0 = z0 at *
              omega
            have h2 := kn_le hYp h1
            have h3 : q - 1 = (D * 4294967296 + u0) / (Y * 4) := by rw [hY.out]; omega
            exact kn_rest (by decide) (by omega) hM.out h3
          clear Hmore
          go_wp2_with fail
          go_ret2
          obtain ⟨g1, g2⟩ := hfin.out
          have hYpos : 0 < Y := by omega
          have g3 := Int.emod_nonneg (H * 18446744073709551616 + Lo) (show Y ≠ 0 by omega)
          have g4 := Int.emod_lt_of_pos (H * 18446744073709551616 + Lo) hYpos
          refine ⟨?_, Below.refl _ _⟩
          rw [kn_wrap g2 g3 (by decide) (by omega), ← g1]
          rfl
        · have hnb : r + y1 < 4294967296 := by omega
          clear hbr
          go_wp2_with fail
          go_round
          case rel => exact ⟨q - 1, r + y1, by omega, by omega, by omega, hnb, rfl, rfl, Hmore.out⟩
          case measure => simp [intOf]; omega

set_option maxRecDepth 100000 in
set_option maxHeartbeats 4000000 in
theorem div64_s3 (H Lo Y : Int) (w : World) (h0 : 0 ≤ Lo) (h1 : Lo < 18446744073709551616) (hh : 0 < H) (hh4 : H ≤ 4) (hy0 : 1152921504606846976 ≤ Y) (hy1 : Y < 2305843009213693952) (hn10 : H * 18446744073709551616 + Lo < 10 * Y)
    (hz : Calls Try.prog 56 #[.int .u64 Y] w fun e w' => e = .returned (.int .i64 3) ∧ w = w') :
    Calls Try.prog 55 #[.int .u64 H, .int .u64 Lo, .int .u64 Y] w fun e w' => e = .returned (.tuple #[.int .u64 ((H * 18446744073709551616 + Lo) / Y), .int .u64 ((H * 18446744073709551616 + Lo) % Y)]) ∧ Below w.heap.size w w' := by
  have hor := or_low H (Lo / 2305843009213693952) 3 8 (by decide) (by omega) (by omega) hh4 (by omega) (by omega)
  obtain ⟨u, hu⟩ : ∃ u, H * 8 + Lo / 2305843009213693952 = u := ⟨_, rfl⟩
  obtain ⟨U, hU⟩ : ∃ U, Lo * 8 % 18446744073709551616 = U := ⟨_, rfl⟩
  obtain ⟨y1, e1⟩ : ∃ y1, Y * 8 / 4294967296 = y1 := ⟨_, rfl⟩
  obtain ⟨y0, e0⟩ : ∃ y0, Y * 8 % 4294967296 = y0 := ⟨_, rfl⟩
  obtain ⟨u1, f1⟩ : ∃ u1, U / 4294967296 = u1 := ⟨_, rfl⟩
  obtain ⟨u0, f0⟩ : ∃ u0, U % 4294967296 = u0 := ⟨_, rfl⟩
  have ha1 : bits .and .u64 (Y * 8) 4294967295 = y0 := by rw [and_low32 _ (by omega) (by omega), e0]
  have ha2 : bits .and .u64 U 4294967295 = u0 := by rw [and_low32 _ (by omega) (by omega), f0]
  have hwU : IntKind.u64.wrap (Lo * 8) = U := by rw [IntKind.wrap_u64, hU]
  rw [hu] at hor
  have by1 : 2147483648 ≤ y1 ∧ y1 < 4294967296 := by omega
  have by0 : 0 ≤ y0 ∧ y0 < 4294967296 := by omega
  have bu : 0 ≤ u ∧ u < 40 := by omega
  have bu1 : 0 ≤ u1 ∧ u1 < 4294967296 := by omega
  have bu0 : 0 ≤ u0 ∧ u0 < 4294967296 := by omega
  have hY : Hid (Y * 8 = y1 * 4294967296 + y0) := by show _ = _; omega
  obtain ⟨D, hD⟩ : ∃ D, u * 4294967296 + u1 = D := ⟨_, rfl⟩
  have bD : 0 ≤ D ∧ D < 171798691840 := by omega
  have hM : Hid (D * 4294967296 + u0 = (H * 18446744073709551616 + Lo) * 8) := by show _ = _; omega
  have hq0 : u / y1 = 0 := Int.ediv_eq_zero_of_lt bu.1 (by omega)
  have hf := kn_first (D := D) (y1 := y1) (y0 := y0) (u0 := u0) (by omega) by0.1 bD.1 bu0.1 bu0.2
  have hq80 : D / y1 < 80 := kn_gt (by omega) (by omega)
  have hqn : 0 ≤ D / y1 := Int.ediv_nonneg bD.1 (by omega)
  have hdm := Int.emod_add_mul_ediv D y1
  have hr0 := Int.emod_nonneg D (show y1 ≠ 0 by omega)
  have hr1 := Int.emod_lt_of_pos D (show 0 < y1 by omega)
  obtain ⟨q, hq⟩ : ∃ q, D / y1 = q := ⟨_, rfl⟩
  obtain ⟨p, hp⟩ : ∃ p, q * y1 = p := ⟨_, rfl⟩
  obtain ⟨r, hr⟩ : ∃ r, D % y1 = r := ⟨_, rfl⟩
  rw [hq, Int.mul_comm y1, hp, hr] at hdm
  rw [hr] at hr0 hr1
  rw [hq] at hf hq80 hqn
  have hDp : D - p = r := by omega
  have bp : 0 ≤ p ∧ p ≤ D := by omega
  have Hf := Lib.hid hf
  have Hdm := Lib.hid (show D = q * y1 + r by rw [hp]; omega)
  have HU := Lib.hid (⟨hu, hU⟩ : _ ∧ _)
  have Hz := Lib.hid hz
  have Hn := Lib.hid hn10
  have hsubD : u * 4294967296 + u1 = D := hD
  obtain ⟨by1a, by1b⟩ := by1
  obtain ⟨by0a, by0b⟩ := by0
  obtain ⟨bua, bub⟩ := bu
  obtain ⟨bu1a, bu1b⟩ := bu1
  obtain ⟨bu0a, bu0b⟩ := bu0
  obtain ⟨bDa, bDb⟩ := bD
  obtain ⟨bpa, bpb⟩ := bp
  clear hz hf hu hU hdm hr f0 e0 hn10
  go_enter Try.func55, Try.ntmps55
  go_wp2_with fail
  refine Hz.out.mono ?_; rintro e w1 ⟨rfl, rfl⟩
  go_wp2_with fail
  go_loop [15, 16] (fun s15 s16 => s15 = .int .u64 0 ∧ s16 = .int .u64 u) (fun _ _ => 0)
  case atStart => exact ⟨by rw [hq0], rfl⟩
  case round =>
    obtain ⟨rfl, rfl⟩ := hrel
    have hno : ¬ (4294967296 * u + u1 < 0) := by omega
    go_wp2_with fail
    go_loop [16, 18] (fun s16 s18 => ∃ q r : Int, 0 ≤ q ∧ q < 80 ∧ 0 ≤ r ∧ r < 4294967296 ∧ s18 = .int .u64 q ∧ s16 = .int .u64 r ∧ Hid (D = q * y1 + r ∧ (D * 4294967296 + u0) / (y1 * 4294967296 + y0) ≤ q)) (fun _ s18 => (intOf s18).toNat)
    case atStart => exact ⟨q, r, hqn, hq80, hr0, by omega, rfl, rfl, Hdm.out, Hf.out⟩
    case round =>
      clear hqn hq80 hr0 hr1 Hdm Hf hDp hp hq bpa bpb
      obtain ⟨q, r, hqn, hq80, hr0, hr1, rfl, rfl, HR⟩ := hrel
      obtain ⟨hdm, hfq⟩ := HR.out
      obtain ⟨p0, hp0⟩ : ∃ p0, q * y0 = p0 := ⟨_, rfl⟩
      have bp0 : 0 ≤ p0 := by rw [← hp0]; exact Int.mul_nonneg hqn by0a
      have bp1 : p0 ≤ 80 * 4294967296 := by rw [← hp0]; exact Int.mul_le_mul (by omega) (by omega) by0a (by omega)
      have hYp : 0 < y1 * 4294967296 + y0 := by omega
      have hqY : q * (y1 * 4294967296 + y0) = q * y1 * 4294967296 + p0 := by rw [Int.mul_add, hp0, ← Int.mul_assoc]
      have hfin : Hid (p0 ≤ 4294967296 * r + u0 → q = (H * 18446744073709551616 + Lo) / Y ∧ (D * 4294967296 + u0) - q * (Y * 8) = (H * 18446744073709551616 + Lo) % Y * 8) := fun hle => by
        have h1 : q * (y1 * 4294967296 + y0) ≤ D * 4294967296 + u0 := by rw [hqY]; generalize q * y1 = z at *; omega
        have h2 := kn_le hYp h1
        have h3 : q = (D * 4294967296 + u0) / (Y * 8) := by rw [hY.out]; omega
        exact kn_rest (by decide) (by omega) hM.out h3
      have hmore : Hid (¬ p0 ≤ 4294967296 * r + u0 → D = (q - 1) * y1 + (r + y1) ∧ (D * 4294967296 + u0) / (y1 * 4294967296 + y0) ≤ q - 1) := fun hgt => by
        refine ⟨by rw [Int.sub_mul]; omega, ?_⟩
        have h1 : D * 4294967296 + u0 < q * (y1 * 4294967296 + y0) := by rw [hqY]; generalize q * y1 = z at *; omega
        have := kn_gt hYp h1
        omega
      clear hdm hfq hqY hYp HR
      by_cases hle : p0 ≤ 4294967296 * r + u0
      · have Hfin := Lib.hid (hfin.out hle)
        have hnot : ¬ (4294967296 * r + u0 < p0) := by omega
        clear hfin hmore
        go_wp2_with fail
        go_ret2
        obtain ⟨g1, g2⟩ := Hfin.out
        have hYpos : 0 < Y := by omega
        have g3 := Int.emod_nonneg (H * 18446744073709551616 + Lo) (show Y ≠ 0 by omega)
        have g4 := Int.emod_lt_of_pos (H * 18446744073709551616 + Lo) hYpos
        refine ⟨?_, Below.refl _ _⟩
        rw [kn_wrap g2 g3 (by decide) (by omega), ← g1]
        rfl
      · have Hmore := Lib.hid (hmore.out hle)
        have hyes : 4294967296 * r + u0 < p0 := by omega
        have hq1 : 1 ≤ q := by
          by_cases h : q = 0
          · rw [h, Int.zero_mul] at hp0; omega
          · omega
        clear hfin hmore hle
        by_cases hbr : 4294967296 ≤ r + y1
        · have hfin : Hid (q - 1 = (H * 18446744073709551616 + Lo) / Y ∧ (D * 4294967296 + u0) - (q - 1) * (Y * 8) = (H * 18446744073709551616 + Lo) % Y * 8) := by
            obtain ⟨g1, g2⟩ := Hmore.out
            have hYp : 0 < y1 * 4294967296 + y0 := by omega
            have hqY : (q - 1) * (y1 * 4294967296 + y0) = (q - 1) * y1 * 4294967296 + (q - 1) * y0 := by rw [Int.mul_add, ← Int.mul_assoc]
            have hb : (q - 1) * y0 ≤ 80 * 4294967296 := Int.mul_le_mul (by omega) (by omega) by0a (by omega)
            have h1 : (q - 1) * (y1 * 4294967296 + y0) ≤ D * 4294967296 + u0 := by
              rw [hqY]
              generalize (q - 1) * y1 = z at *
              generalize (q - 1) * y0 = z0 at *
              omega
            have h2 := kn_le hYp h1
            have h3 : q - 1 = (D * 4294967296 + u0) / (Y * 8) := by rw [hY.out]; omega
            exact kn_rest (by decide) (by omega) hM.out h3
          clear Hmore
          go_wp2_with fail
          go_ret2
          obtain ⟨g1, g2⟩ := hfin.out
          have hYpos : 0 < Y := by omega
          have g3 := Int.emod_nonneg (H * 18446744073709551616 + Lo) (show Y ≠ 0 by omega)
          have g4 := Int.emod_lt_of_pos (H * 18446744073709551616 + Lo) hYpos
          refine ⟨?_, Below.refl _ _⟩
          rw [kn_wrap g2 g3 (by decide) (by omega), ← g1]
          rfl
        · have hnb : r + y1 < 4294967296 := by omega
          clear hbr
          go_wp2_with fail
          go_round
          case rel => exact ⟨q - 1, r + y1, by omega, by omega, by omega, hnb, rfl, rfl, Hmore.out⟩
          case measure => simp [intOf]; omega

theorem div64_calls (N Y : Int) (w : World) (hN0 : 0 ≤ N) (hY : 0 < Y) (hY2 : Y < 9223372036854775808) (hN : N < 10 * Y) :
    Calls Try.prog 55 #[.int .u64 (N / 18446744073709551616), .int .u64 (N % 18446744073709551616), .int .u64 Y] w fun e w' => e = .returned (.tuple #[.int .u64 (N / Y), .int .u64 (N % Y)]) ∧ Below w.heap.size w w' := by
  have hb : 0 ≤ N / 18446744073709551616 ∧ N / 18446744073709551616 ≤ 4 := by omega
  have hsum : N / 18446744073709551616 * 18446744073709551616 + N % 18446744073709551616 = N := by omega
  by_cases h0 : N / 18446744073709551616 = 0
  · have e : N % 18446744073709551616 = N := by omega
    rw [h0, e]
    exact div64_small N Y w hN0 (by omega) hY hY2
  · have hY60 : 1844674407370955161 < Y := by omega
    have hy : Y = ((Y.toNat : Nat) : Int) := by omega
    have hlz : ∀ L : Nat, 2 ^ L ≤ Y.toNat → Y.toNat < 2 ^ (L + 1) → 60 ≤ L → L ≤ 62 → Calls Try.prog 56 #[.int .u64 Y] w fun e w' => e = .returned (.int .i64 ((63 - L : Nat) : Int)) ∧ w = w' := fun L a b c d => by
      have h := lz64_calls Y.toNat L w a b c d
      rwa [← hy] at h
    rcases (by omega : 4611686018427387904 ≤ Y ∨ (2305843009213693952 ≤ Y ∧ Y < 4611686018427387904) ∨ (1152921504606846976 ≤ Y ∧ Y < 2305843009213693952)) with h | ⟨h, h'⟩ | ⟨h, h'⟩
    · have := div64_s1 (N / 18446744073709551616) (N % 18446744073709551616) Y w (by omega) (by omega) (by omega) hb.2 h hY2 (by omega) (hlz 62 (by omega) (by omega) (by omega) (by omega))
      rwa [hsum] at this
    · have := div64_s2 (N / 18446744073709551616) (N % 18446744073709551616) Y w (by omega) (by omega) (by omega) hb.2 h h' (by omega) (hlz 61 (by omega) (by omega) (by omega) (by omega))
      rwa [hsum] at this
    · have := div64_s3 (N / 18446744073709551616) (N % 18446744073709551616) Y w (by omega) (by omega) (by omega) hb.2 h h' (by omega) (hlz 60 (by omega) (by omega) (by omega) (by omega))
      rwa [hsum] at this

theorem mul64_callsI (X : Int) (w : World) (h0 : 0 ≤ X) (h1 : X < 9223372036854775808) :
    Calls Try.prog 53 #[.int .u64 X, .int .u64 10] w fun e w' => e = .returned (.tuple #[.int .u64 (10 * X / 18446744073709551616), .int .u64 (10 * X % 18446744073709551616)]) ∧ w = w' := by
  have h := mul64_calls X.toNat w (by omega)
  have e1 : ((10 * X.toNat / 18446744073709551616 : Nat) : Int) = 10 * X / 18446744073709551616 := by omega
  have e2 : ((10 * X.toNat % 18446744073709551616 : Nat) : Int) = 10 * X % 18446744073709551616 := by omega
  rwa [e1, e2, show ((X.toNat : Nat) : Int) = X by omega] at h

theorem add64_run (x y : Int) (hx : 0 ≤ x) (hy : 0 ≤ y) (w : World) :
    (callFunc 54 #[.int .u64 x, .int .u64 y, .int .u64 0]).run Try.prog w = .ok (.value (.tuple #[.int .u64 ((x + y) % 18446744073709551616), .int .u64 ((x + y) / 18446744073709551616)])) w := by
  rw [run_callFunc_extern Try.func54 (by kernel_rfl) (by kernel_rfl) (by kernel_rfl) (e := add64Entry) (by kernel_rfl), run_add64 x y 0 hx hy (by decide) (by decide), Int.add_zero]
  rfl

set_option maxRecDepth 100000 in
set_option maxHeartbeats 4000000 in
theorem over_calls (x B : Nat) (w : World) (hx : x < 10 ^ 55) (hB0 : 0 < B) (hB1 : B ≤ big) :
    Calls Try.prog 34 #[.agg (sA (dgt x)), .int .u64 (B : Nat)] w fun e w' => e = .returned (.tuple #[.agg (sA (dgt (x / B))), .int .u64 ((x % B : Nat) : Int)]) ∧ Below w.heap.size w w' := by
  have hs := sA_size (dgt x)
  have hone := sA_one (dgt x)
  unfold big at hB1
  obtain ⟨Y, hY⟩ : ∃ Y : Int, Y = B := ⟨_, rfl⟩
  have hY0 : 0 < Y := by omega
  have hY1 : Y < 9223372036854775808 := by omega
  have HY := Lib.hid (⟨hY, hB0, hx⟩ : _ ∧ _ ∧ _)
  rw [← hY]
  clear hY hB0 hB1 hx
  go_enter Try.func34, Try.ntmps34
  go_wp2_with fail
  rw [zeros_sA]
  have b1 := (Below.refl w.heap.size w).alloc (Nat.le_refl _) (.cells (sA (dgt x)) 43)
  have b2 := kb_alloc b1 (Nat.le_refl _) (.cells (sA (fun _ => 0)) 43)
  have b3 := kb_alloc b2 (Nat.le_refl _) (.cells (sA (fun _ => 0)) 43)
  have d1 := ((SAt.new w (dgt x)).alloc (.cells (sA (fun _ => 0)) 43)).alloc (.cells (sA (fun _ => 0)) 43)
  have d2 := (SAt.new (w.alloc (.cells (sA (dgt x)) 43)) (fun _ => 0)).alloc (.cells (sA (fun _ => 0)) 43)
  have d3 := SAt.new ((w.alloc (.cells (sA (dgt x)) 43)).alloc (.cells (sA (fun _ => 0)) 43)) (fun _ => 0)
  rw [show (w.alloc (.cells (sA (dgt x)) 43)).heap.size = w.heap.size + 1 by simp] at d2
  rw [show ((w.alloc (.cells (sA (dgt x)) 43)).alloc (.cells (sA (fun _ => 0)) 43)).heap.size = w.heap.size + 2 by simp] at d3
  generalize ((w.alloc (.cells (sA (dgt x)) 43)).alloc (.cells (sA (fun _ => 0)) 43)).alloc (.cells (sA (fun _ => 0)) 43) = W at *
  have HH := Lib.hid (⟨b3, d1, d2, d3⟩ : _ ∧ _ ∧ _ ∧ _)
  clear hs hone b1 b2 b3 d1 d2 d3
  go_loopw [7, 8] (fun s7 s8 wr => ∃ (j : Nat) (R : Int), j ≤ 55 ∧ 0 ≤ R ∧ R < Y ∧ s8 = .int .i64 ((j : Int) - 1) ∧ s7 = .int .u64 R ∧ Hid (R = ((x / 10 ^ j % B : Nat) : Int) ∧ Below w.heap.size w wr ∧ SAt wr w.heap.size (dgt x) ∧ SAt wr (w.heap.size + 1) (fun _ => 0) ∧ SAt wr (w.heap.size + 2) (fun i => if j ≤ i then dgt (x / B) i else 0))) (fun _ s8 _ => (intOf s8 + 1).toNat)
  case atStart =>
    obtain ⟨hYB, hB0, hx⟩ := HY.out
    refine ⟨55, 0, Nat.le_refl _, Int.le_refl _, hY0, rfl, rfl, by rw [Nat.div_eq_of_lt hx, Nat.zero_mod]; rfl, HH.out.1, HH.out.2.1, HH.out.2.2.1, HH.out.2.2.2.ext fun i hi => by rw [if_neg (by omega)]⟩
  case round =>
    clear HH
    obtain ⟨j, R, hj, hR0, hR1, rfl, rfl, H⟩ := hrel
    rcases j with _ | j
    · obtain ⟨hR, hB, hd1, hd2, hd3⟩ := H.out
      clear H
      go_wp2_with (first
        | (refine wpList_load_row rfl 43 _ rfl (w.heap.size + 2) rfl 43 _ (0, 0) _ hd3.heap Try.underlying43 rfl (by rw [sA_size]; exact sum_info) ?_)
        | (refine wpList_store_row rfl 43 _ _ rfl (w.heap.size + 1) _ rfl rfl 43 _ hd2.heap (by rw [sA_size]; exact sum_info) (by rw [sA_size, sA_size]) (sA_one _) ?_))
      have hv := (hd2.row (dgt (x / B))).value
      have hR2 : (x : Int) % (B : Int) = ((x % B : Nat) : Int) := (Int.natCast_emod x B).symm
      refine bodyPost_ret (v := .tuple #[.agg (sA (dgt (x / B))), .int .u64 ((x : Int) % (B : Int))]) (by simp [results, Try.results34, Act.put, asAddr, hv, Result.andThen]) rfl ⟨by rw [hR2], below_setRow hB (by omega) _⟩
    · have e : ((j + 1 : Nat) : Int) - 1 = (j : Int) := by omega
      rw [e]
      obtain ⟨hR, hB, hd1, hd2, hd3⟩ := H.out
      have hd9 := dgt_le x j
      have c1 := hd1.cell j (by omega)
      have hst : Hid (((10 * R + (dgt x j : Int)) / Y = ((dgt (x / B) j : Nat) : Int)) ∧ (10 * R + (dgt x j : Int)) % Y = ((x / 10 ^ j % B : Nat) : Int)) := by
        obtain ⟨hYB, hB0, hx⟩ := HY.out
        have h1 := over_rest x B j
        have h2 := (over_digit x B j hB0).1
        show _ ∧ _
        rw [hR, hYB, h1, h2]
        constructor <;> simp
      obtain ⟨d, hd⟩ : ∃ d : Int, ((dgt x j : Nat) : Int) = d := ⟨_, rfl⟩
      rw [hd] at c1 hst
      have bd0 : 0 ≤ d := by omega
      have bd9 : d ≤ 9 := by omega
      obtain ⟨hi, hhi⟩ : ∃ hi : Int, 10 * R / 18446744073709551616 = hi := ⟨_, rfl⟩
      obtain ⟨lo, hlo⟩ : ∃ lo : Int, 10 * R % 18446744073709551616 = lo := ⟨_, rfl⟩
      obtain ⟨l2, hl2⟩ : ∃ l2 : Int, (lo + d) % 18446744073709551616 = l2 := ⟨_, rfl⟩
      obtain ⟨ca, hca⟩ : ∃ ca : Int, (lo + d) / 18446744073709551616 = ca := ⟨_, rfl⟩
      have hmul := Lib.hid (fun W => mul64_callsI R W hR0 (by omega))
      rw [hhi, hlo] at hmul
      have hadd := fun W => add64_run lo d (by omega) bd0 W
      rw [hl2, hca] at hadd
      have hN : 10 * R + d < 10 * Y := by omega
      have hdiv := Lib.hid (fun W => div64_calls (10 * R + d) Y W (by omega) hY0 hY1 hN)
      have en1 : (10 * R + d) / 18446744073709551616 = hi + ca := by omega
      have en2 : (10 * R + d) % 18446744073709551616 = l2 := by omega
      rw [en1, en2] at hdiv
      have hq9 : (10 * R + d) / Y < 10 := kn_gt hY0 hN
      have hq0 : 0 ≤ (10 * R + d) / Y := Int.ediv_nonneg (by omega) (by omega)
      have hr0 : 0 ≤ (10 * R + d) % Y := Int.emod_nonneg _ (by omega)
      have hr1 : (10 * R + d) % Y < Y := Int.emod_lt_of_pos _ hY0
      obtain ⟨Q, hQ⟩ : ∃ Q, (10 * R + d) / Y = Q := ⟨_, rfl⟩
      obtain ⟨R', hR'⟩ : ∃ R', (10 * R + d) % Y = R' := ⟨_, rfl⟩
      rw [hQ, hR'] at hdiv hst
      rw [hQ] at hq9 hq0
      rw [hR'] at hr0 hr1
      have bhi : 0 ≤ hi ∧ hi ≤ 4 := by omega
      have bca : 0 ≤ ca ∧ ca ≤ 1 := by omega
      obtain ⟨bhi0, bhi4⟩ := bhi
      obtain ⟨bca0, bca1⟩ := bca
      have HH := Lib.hid (⟨hB, hd1, hd2, hd3⟩ : _ ∧ _ ∧ _ ∧ _)
      clear hd hd9 hR H hB hd1 hd2 hd3 hhi hlo hl2 hca hN en1 en2 hQ hR' e
      go_wp2_with fail
      refine (hmul.out _).mono ?_; rintro e w1 ⟨rfl, rfl⟩
      clear hmul
      go_wp2_with fail
      refine (hdiv.out _).mono ?_; rintro e w2 ⟨rfl, b2⟩
      have HH2 : Hid (Below w.heap.size w w2 ∧ SAt w2 w.heap.size (dgt x) ∧ SAt w2 (w.heap.size + 1) (fun _ => 0) ∧ SAt w2 (w.heap.size + 2) (fun i => if j + 1 ≤ i then dgt (x / B) i else 0)) := by
        obtain ⟨q0, q1, q2, q3⟩ := HH.out
        exact ⟨trans9 q0 b2, q1.keep b2, q2.keep b2, q3.keep b2⟩
      have c3 := HH2.out.2.2.2.cell j (by omega)
      have f3 := HH2.out.2.2.2.free j
      clear b2 HH hadd hdiv c1
      go_wp2_with fail
      go_roundw
      case rel =>
        obtain ⟨q0, q1, q2, q3⟩ := HH2.out
        have hqd : Q = ((dgt (x / B) j : Nat) : Int) := hst.out.1
        rw [hqd]
        refine ⟨j, R', by omega, hr0, hr1, rfl, rfl, hst.out.2, Below.setCell (p := ⟨w.heap.size + 2, j, none⟩) q0 (by simp) _, q1.other _ _ (by simp; omega), q2.other _ _ (by simp), (q3.set j (dgt (x / B) j)).ext fun k _ => ?_⟩
        by_cases h : k = j
        · subst h; rw [if_pos rfl, if_pos (Nat.le_refl _)]
        · rw [if_neg h]
          by_cases h3 : j ≤ k
          · rw [if_pos h3, if_pos (by omega)]
          · rw [if_neg h3, if_neg (by omega)]
      case measure => simp [intOf]

end Go.Proofs.Ytpciohnnnpgpiaa
