/- The walk of the law SumScaled. -/
import Derived.Test.YtpciohnnnpgpiaaSumL
import Derived.Test.YtpciohnnnpgpiaaFrame
import Derived.Deep.DeepCutAuto
import Derived.Deep.DeepCutAuto
namespace Go.Proofs.Ytpciohnnnpgpiaa
open Go.RowKit Dc
attribute [local go_sem ↓] Go.wp_at_zero Go.wp_at_succ

theorem neq_dec (a b : Int) (W : World) : (binOp .neq 25 (dv2 a b) (dv2 a b)).run Try.prog W = .ok (.bool false) W := by
  go_simp
theorem dec0 (k : Nat) : decOf (decide ((0 : Int) < 0)) (0 : Int).natAbs (k : Int) = some (0, 0) := by
  unfold decOf
  rw [if_neg (by omega), if_pos (show (0 : Int).natAbs = 0 from rfl)]
theorem scaled_self {p i : Int} (h : Gd p i) : scaledO p i i = some p := by
  have a := h.s0
  have b := h.s1
  have c := h.small
  unfold scaledO
  rw [if_pos ⟨h.good, Int.le_refl _, b, by rw [Int.sub_self]; simpa using c⟩, Int.sub_self]
  simp
theorem scaled_next {p i : Int} {k : Nat} (_h : Gd p i) (hk : i < (k : Int)) (hn : scaledO p i k = none) : scaledO p i ((k : Int) + 1) = none := by
  unfold scaledO at hn ⊢
  split at hn
  · cases hn
  · rename_i hc
    rw [if_neg]
    rintro ⟨h1, h2, h3, h4⟩
    refine hc ⟨h1, by omega, by omega, ?_⟩
    rw [show ((k : Int) + 1 - i).toNat = ((k : Int) - i).toNat + 1 by omega, Nat.pow_succ, ← Nat.mul_assoc] at h4
    omega
theorem scaled_norm {p i : Int} {k : Nat} {nn : Int} (h : Gd p i) (hk : i ≤ (k : Int)) (hs : scaledO p i k = some nn) : -9223372036854775808 ≤ nn ∧ nn ≤ 9223372036854775807 ∧ decOf (decide (nn < 0)) nn.natAbs (k : Int) = some (p, i.toNat) := by
  have hi := h.s0
  unfold scaledO at hs
  split at hs
  · rename_i hc
    cases hs
    have hp := pwI ((k : Int) - i).toNat
    have habs : (p * 10 ^ ((k : Int) - i).toNat).natAbs = p.natAbs * 10 ^ ((k : Int) - i).toNat := by rw [Int.natAbs_mul, Int.natAbs_pow]; rfl
    have hb := hc.2.2.2
    rw [← habs] at hb
    unfold big at hb
    have hneg : p * 10 ^ ((k : Int) - i).toNat < 0 ↔ p < 0 := by
      constructor
      · intro e
        by_cases h0 : p < 0
        · exact h0
        · have := Int.mul_nonneg (show 0 ≤ p by omega) (Int.le_of_lt hp); omega
      · intro e
        exact Int.mul_neg_of_neg_of_pos e hp
    refine ⟨by omega, by omega, ?_⟩
    rw [habs, decide_eq_decide.2 hneg]
    have hd := decOf_pad (decide (p < 0)) p.natAbs i.toNat ((k : Int) - i).toNat
    rw [show ((i.toNat + ((k : Int) - i).toNat : Nat) : Int) = (k : Int) by omega, show ((i.toNat : Nat) : Int) = i by omega] at hd
    rw [hd]
    exact decOf_good p i h.small h.good
  · cases hs
set_option maxRecDepth 100000 in
set_option maxHeartbeats 8000000 in
theorem scaledlaw_walk (m x : Int) (w : World) (hm : -9223372036854775808 ≤ m) (hm2 : m ≤ 9223372036854775807) (hx : 0 ≤ x) (hx2 : x ≤ 255) :
    Calls Try.prog 7 #[.int .i64 m, .int .u8 x] w fun e w' => e = .returned (.bool true) ∧ Below w.heap.size w w' := by
  have hdp := Lib.hid (fun W => dot_calls m (x % 19) W hm hm2 (by omega) (by omega))
  have gp := Gd.dot m (x % 19)
  obtain ⟨p, hp⟩ : ∃ u, u = (dotO m (x % 19)).1 := ⟨_, rfl⟩
  obtain ⟨i, hi⟩ : ∃ u, u = (dotO m (x % 19)).2 := ⟨_, rfl⟩
  rw [← hp, ← hi] at hdp gp
  clear hp hi
  have hi0 : ((i.toNat : Nat) : Int) = i := by have := gp.s0; omega
  have hgs0 := gp.s0
  have hgs1 := gp.s1
  have hz1 := Lib.hid (fun W => scaled_of p i (-1) W none (scaledO_bad (Or.inr (Or.inl (by omega)))) gp.lo gp.hi)
  have hz2 := Lib.hid (fun W => scaled_of p i 19 W none (scaledO_bad (Or.inr (Or.inr (by omega)))) gp.lo gp.hi)
  rw [show scaledV none = Value.tuple #[.int .i64 0, .bool false] from rfl] at hz1 hz2
  have kB := Below.refl w.heap.size w
  clear hm hm2
  go_enter Try.func7, Try.ntmps7
  go_wp2_with fail
  refine (known_calls _).mono ?_; rintro e w1 ⟨rfl, b1⟩
  replace kB := kB.trans (b1.mono kB.size)
  clear b1
  go_wp2_with fail
  refine (hdp.out _).mono ?_; rintro e w2 ⟨rfl, b2⟩
  replace kB := kB.trans (b2.mono kB.size)
  clear b2
  replace kB := kb_alloc kB (Nat.le_refl _) (.cells #[.int .i64 p, .int .i64 i] 25)
  have kd5 := DecAt.new w2 p i
  go_wp2_with fail
  obtain ⟨W3, hcur⟩ : ∃ uu, uu = w2.alloc (.cells #[.int .i64 p, .int .i64 i] 25) := ⟨_, rfl⟩
  rw [← hcur] at kB kd5 ⊢
  clear hcur
  obtain ⟨z5, hcur⟩ : ∃ uu, uu = w2.heap.size := ⟨_, rfl⟩
  rw [← hcur] at kd5 ⊢
  clear hcur
  have H0 := Lib.hid (⟨kB, kd5⟩ : _ ∧ _)
  clear kB kd5
  go_loopw [6, 7] (fun s6 s7 wr => ∃ (k : Nat) (ws : Bool), k ≤ 19 ∧ s7 = .int .i64 (k : Nat) ∧ s6 = .bool ws ∧ Hid (Below w.heap.size w wr ∧ DecAt wr z5 p i ∧ (ws = false → scaledO p i k = none ∧ i < (k : Int)))) (fun _ s7 _ => 19 - (intOf s7).toNat)
  case atStart => exact ⟨0, true, by omega, rfl, rfl, H0.out.1, H0.out.2, fun e => by cases e⟩
  case round =>
    clear H0
    obtain ⟨k, ws, hk, rfl, rfl, H⟩ := hrel
    obtain ⟨kB, kd5, hinv⟩ := H.out
    clear H
    by_cases hk18 : k ≤ 18
    · rcases (by omega : (k : Int) < i ∨ (k : Int) = i ∨ i < (k : Int)) with hlt | heq | hgt
      · have hib : ((k : Int) == i) = false := by simp; omega
        have hl2 : ¬ i < (k : Int) := by omega
        have hno := scaledO_bad (m := p) (s := i) (k := (k : Int)) (Or.inr (Or.inl hlt))
        have hsc := Lib.hid (fun W => scaled_of p i k W none hno gp.lo gp.hi)
        rw [show scaledV none = Value.tuple #[.int .i64 0, .bool false] from rfl] at hsc
        have hnm := Lib.hid (fun W => rnorm_calls 0 k W (by decide) (by decide) (by omega) (by omega))
        rw [dec0 k, show rdecV (some (0, 0)) = Value.tuple #[dv2 0 0, .bool true] from rfl] at hnm
        clear hno
        have c0d5 := kd5.c0; have c1d5 := kd5.c1
        go_wp2_with fail
        clear c0d5 c1d5
        refine (hsc.out _).mono ?_; rintro e w1 ⟨rfl, b1⟩
        replace kB := kB.trans (b1.mono kB.size)
        replace kd5 := kd5.below b1
        clear b1
        have c0d5 := kd5.c0; have c1d5 := kd5.c1
        go_wp2_with fail
        clear c0d5 c1d5
        refine (hnm.out _).mono ?_; rintro e w2 ⟨rfl, b2⟩
        replace kB := kB.trans (b2.mono kB.size)
        replace kd5 := kd5.below b2
        clear b2
        replace kB := kb_alloc kB (Nat.le_refl _) (.cells #[.int .i64 0, .int .i64 0] 25)
        replace kd5 := kd5.alloc (.cells #[.int .i64 0, .int .i64 0] 25)
        have e0 := kd5.c0; have e1 := kd5.c1
        go_wp2_with fail
        go_roundw
        case rel =>
          refine ⟨k + 1, true, by omega, by go_num, by first | rfl | (rw [decide_eq_false (show ¬ (k : Int) < i by omega)]), kB, kd5, fun e => ?_⟩
          cases e
        case measure => simp [intOf]; omega
      · skip
        have hye : scaledO p i (k : Int) = some p := by rw [heq]; exact scaled_self gp
        have hsc := Lib.hid (fun W => scaled_of p i k W (some p) hye gp.lo gp.hi)
        rw [show scaledV (some p) = Value.tuple #[.int .i64 p, .bool true] from rfl] at hsc
        have hnm := Lib.hid (fun W => rnorm_calls p k W gp.lo gp.hi (by omega) (by omega))
        rw [show decOf (decide (p < 0)) p.natAbs (k : Int) = some (p, i.toNat) by rw [heq]; exact decOf_good p i gp.small gp.good, show rdecV (some (p, i.toNat)) = Value.tuple #[dv2 p ((i.toNat : Nat) : Int), .bool true] from rfl, hi0] at hnm
        have hib : ((k : Int) == i) = true := by simpa using heq
        have hl1 : ¬ (k : Int) < i := by omega
        have hl2 : ¬ i < (k : Int) := by omega
        have Heq := Lib.hid heq
        have qpp : (p != p) = false := by simp
        clear hye heq
        have c0d5 := kd5.c0; have c1d5 := kd5.c1
        go_wp2_with fail
        clear c0d5 c1d5
        refine (hsc.out _).mono ?_; rintro e w1 ⟨rfl, b1⟩
        replace kB := kB.trans (b1.mono kB.size)
        replace kd5 := kd5.below b1
        clear b1
        have c0d5 := kd5.c0; have c1d5 := kd5.c1
        go_wp2_with fail
        clear c0d5 c1d5
        refine (hnm.out _).mono ?_; rintro e w2 ⟨rfl, b2⟩
        replace kB := kB.trans (b2.mono kB.size)
        replace kd5 := kd5.below b2
        clear b2
        have qp2 := fun W => neq_dec p i W
        replace kB := kb_alloc kB (Nat.le_refl _) (.cells #[.int .i64 p, .int .i64 i] 25)
        replace kd5 := kd5.alloc (.cells #[.int .i64 p, .int .i64 i] 25)
        have e0 := kd5.c0; have e1 := kd5.c1
        go_wp2_with fail
        go_roundw
        case rel =>
          refine ⟨k + 1, true, by omega, by go_num, by first | rfl | (rw [decide_eq_false (show ¬ (k : Int) < i by omega)]), kB, kd5, fun e => ?_⟩
          cases e
        case measure => simp [intOf]; omega
      · cases hcs : scaledO p i k with
        | none =>
          have hsc := Lib.hid (fun W => scaled_of p i k W none hcs gp.lo gp.hi)
          rw [show scaledV none = Value.tuple #[.int .i64 0, .bool false] from rfl] at hsc
          have hnm := Lib.hid (fun W => rnorm_calls 0 k W (by decide) (by decide) (by omega) (by omega))
          rw [dec0 k, show rdecV (some (0, 0)) = Value.tuple #[dv2 0 0, .bool true] from rfl] at hnm
          have hnext := Lib.hid (scaled_next gp hgt hcs)
          have hib : ((k : Int) == i) = false := by simp; omega
          have hl1 : ¬ (k : Int) < i := by omega
          clear hcs
          have c0d5 := kd5.c0; have c1d5 := kd5.c1
          go_wp2_with fail
          clear c0d5 c1d5
          refine (hsc.out _).mono ?_; rintro e w1 ⟨rfl, b1⟩
          replace kB := kB.trans (b1.mono kB.size)
          replace kd5 := kd5.below b1
          clear b1
          have c0d5 := kd5.c0; have c1d5 := kd5.c1
          go_wp2_with fail
          clear c0d5 c1d5
          refine (hnm.out _).mono ?_; rintro e w2 ⟨rfl, b2⟩
          replace kB := kB.trans (b2.mono kB.size)
          replace kd5 := kd5.below b2
          clear b2
          replace kB := kb_alloc kB (Nat.le_refl _) (.cells #[.int .i64 0, .int .i64 0] 25)
          replace kd5 := kd5.alloc (.cells #[.int .i64 0, .int .i64 0] 25)
          have e0 := kd5.c0; have e1 := kd5.c1
          go_wp2_with fail
          go_roundw
          case rel =>
            refine ⟨k + 1, false, by omega, by go_num, by first | rfl | (rw [decide_eq_false (show ¬ (k : Int) < i by omega)]), kB, kd5, fun e => ?_⟩
            exact ⟨by rw [show (((k + 1 : Nat)) : Int) = (k : Int) + 1 by omega]; exact hnext.out, by omega⟩
          case measure => simp [intOf]; omega
        | some nn =>
          have hws : ws = true := by
            cases hw : ws with
            | true => rfl
            | false => rw [(hinv hw).1] at hcs; cases hcs
          subst hws
          have hsc := Lib.hid (fun W => scaled_of p i k W (some nn) hcs gp.lo gp.hi)
          rw [show scaledV (some nn) = Value.tuple #[.int .i64 nn, .bool true] from rfl] at hsc
          obtain ⟨hb1, hb2, hb3⟩ := scaled_norm gp (by omega) hcs
          have hnm := Lib.hid (fun W => rnorm_calls nn k W hb1 hb2 (by omega) (by omega))
          rw [hb3, show rdecV (some (p, i.toNat)) = Value.tuple #[dv2 p ((i.toNat : Nat) : Int), .bool true] from rfl, hi0] at hnm
          have hib : ((k : Int) == i) = false := by simp; omega
          have hl1 : ¬ (k : Int) < i := by omega
          clear hcs hinv
          have c0d5 := kd5.c0; have c1d5 := kd5.c1
          go_wp2_with fail
          clear c0d5 c1d5
          refine (hsc.out _).mono ?_; rintro e w1 ⟨rfl, b1⟩
          replace kB := kB.trans (b1.mono kB.size)
          replace kd5 := kd5.below b1
          clear b1
          have c0d5 := kd5.c0; have c1d5 := kd5.c1
          go_wp2_with fail
          clear c0d5 c1d5
          refine (hnm.out _).mono ?_; rintro e w2 ⟨rfl, b2⟩
          replace kB := kB.trans (b2.mono kB.size)
          replace kd5 := kd5.below b2
          clear b2
          have qp2 := fun W => neq_dec p i W
          replace kB := kb_alloc kB (Nat.le_refl _) (.cells #[.int .i64 p, .int .i64 i] 25)
          replace kd5 := kd5.alloc (.cells #[.int .i64 p, .int .i64 i] 25)
          have e0 := kd5.c0; have e1 := kd5.c1
          go_wp2_with fail
          go_roundw
          case rel =>
            refine ⟨k + 1, true, by omega, by go_num, by first | rfl | (rw [decide_eq_false (show ¬ (k : Int) < i by omega)]), kB, kd5, fun e => ?_⟩
            cases e
          case measure => simp [intOf]; omega
    · obtain rfl : k = 19 := by omega
      rw [show ((19 : Nat) : Int) = 19 from rfl]
      clear hinv
      have c0 := kd5.c0; have c1 := kd5.c1
      go_wp2_with fail
      refine (hz1.out _).mono ?_; rintro e v1 ⟨rfl, b1⟩
      replace kB := kB.trans (b1.mono kB.size)
      replace kd5 := kd5.below b1
      clear b1 c0 c1
      have c0 := kd5.c0; have c1 := kd5.c1
      go_wp2_with fail
      refine (hz2.out _).mono ?_; rintro e v2 ⟨rfl, b2⟩
      replace kB := kB.trans (b2.mono kB.size)
      clear b2
      go_wp2_with fail
      go_ret
      exact ⟨rfl, kB⟩

end Go.Proofs.Ytpciohnnnpgpiaa
