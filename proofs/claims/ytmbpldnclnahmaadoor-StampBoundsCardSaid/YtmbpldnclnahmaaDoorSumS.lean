/- The walk of package sum's Scaled. -/
import Derived.Test.YtmbpldnclnahmaaDoorSumB
import Derived.Test.YtmbpldnclnahmaaDoorDecAt
import Derived.Deep.DeepCutAuto
import Derived.Deep.DrawnRows
set_option linter.unusedVariables false
set_option linter.unusedSimpArgs false
namespace Go.Proofs.YtmbpldnclnahmaaDoor
open Go.RowKit Dc
attribute [local go_sem ↓] Go.wp_at_zero Go.wp_at_succ

/-- a whole number, or that there is none -/
def scaledV : Option Int → Value
  | none => .tuple #[.int .i64 0, .bool false]
  | some a => .tuple #[.int .i64 a, .bool true]
theorem scaledO_bad {m s k : Int} (h : goodD m s = false ∨ k < s ∨ 18 < k) : scaledO m s k = none := by
  unfold scaledO
  rw [if_neg]
  rintro ⟨h1, h2, h3, _⟩
  rcases h with h | h | h
  · rw [h] at h1; cases h1
  · omega
  · omega
set_option maxRecDepth 100000 in
set_option maxHeartbeats 4000000 in
theorem scaled_walk (m s k : Int) (w : World) (hm1 : -9223372036854775808 ≤ m) (hm2 : m ≤ 9223372036854775807) :
    Calls Tryd.prog 27 #[dv2 m s, .int .i64 k] w fun e w' => e = .returned (scaledV (scaledO m s k)) ∧ Below w.heap.size w w' := by
  have kB := kb_alloc (Below.refl w.heap.size w) (Nat.le_refl _) (.cells #[.int .i64 m, .int .i64 s] 23)
  have kd2 := DecAt.new w m s
  go_enter Tryd.func27, Tryd.ntmps27
  go_wp2_with fail
  refine (good_calls m s _).mono ?_; rintro e w1 ⟨rfl, b1⟩
  replace kB := kB.trans (b1.mono kB.size)
  replace kd2 := kd2.below b1
  clear b1
  have c0 := kd2.c0
  have c1 := kd2.c1
  cases hg : goodD m s with
  | false =>
    have hres : Hid (scaledO m s k = none) := scaledO_bad (Or.inl hg)
    clear hg
    go_wp2_with fail
    go_ret2
    exact ⟨by rw [hres.out]; rfl, kB⟩
  | true =>
    by_cases h1 : k < s
    · have hres : Hid (scaledO m s k = none) := scaledO_bad (Or.inr (Or.inl h1))
      clear hg
      go_wp2_with fail
      go_ret2
      exact ⟨by rw [hres.out]; rfl, kB⟩
    by_cases h2 : 18 < k
    · have hres : Hid (scaledO m s k = none) := scaledO_bad (Or.inr (Or.inr h2))
      clear hg
      go_wp2_with fail
      go_ret2
      exact ⟨by rw [hres.out]; rfl, kB⟩
    have hm := big_of hg hm1 hm2
    obtain ⟨gs0, gs1, _, _⟩ := (goodD_iff m s).1 hg
    have hsp := Lib.hid (fun W => sspread_calls m (k - s).toNat W hm (by omega))
    rw [show (((k - s).toNat : Nat) : Int) = k - s by omega] at hsp
    have hxb : m.natAbs * 10 ^ (k - s).toNat < 10 ^ 55 := by
      have h3 : (10 : Nat) ^ (k - s).toNat ≤ 10 ^ 18 := Nat.pow_le_pow_right (by omega) (by omega)
      have h4 : m.natAbs * 10 ^ (k - s).toNat ≤ big * 10 ^ 18 := Nat.mul_le_mul hm h3
      unfold big at h4
      omega
    have hj := Lib.hid (fun W => sjoin_calls (m.natAbs * 10 ^ (k - s).toNat) hxb W)
    have hno : Hid (¬ m.natAbs * 10 ^ (k - s).toNat ≤ big → scaledO m s k = none) := fun h => by
      unfold scaledO
      rw [if_neg (fun e => h e.2.2.2)]
    have hyes : Hid (m.natAbs * 10 ^ (k - s).toNat ≤ big → scaledO m s k = some (sgnV (decide (m < 0)) (m.natAbs * 10 ^ (k - s).toNat))) := fun h => by
      unfold scaledO
      rw [if_pos ⟨hg, by omega, by omega, h⟩]
      congr 1
      unfold sgnV
      by_cases h0 : m < 0
      · rw [if_pos (by simpa using h0), Int.natCast_mul, Int.natCast_pow, ← Int.neg_mul, show -((m.natAbs : Nat) : Int) = m by omega]; rfl
      · rw [if_neg (by simpa using h0), Int.natCast_mul, Int.natCast_pow, show ((m.natAbs : Nat) : Int) = m by omega]; rfl
    obtain ⟨x, hx⟩ : ∃ x, x = m.natAbs * 10 ^ (k - s).toNat := ⟨_, rfl⟩
    rw [← hx] at hsp hj hno hyes
    have hk0 : ¬ k < s := h1
    clear hg hm hxb hx hm1 hm2
    go_wp2_with fail
    refine (hsp.out _).mono ?_; rintro e w2 ⟨rfl, b2⟩
    replace kB := kB.trans (b2.mono kB.size)
    replace kd2 := kd2.below b2
    clear b2 hsp c0 c1
    go_wp2_with fail
    refine (hj.out _).mono ?_; rintro e w3 ⟨rfl, b3⟩
    replace kB := kB.trans (b3.mono kB.size)
    replace kd2 := kd2.below b3
    clear b3 hj
    have c0 := kd2.c0
    have c1 := kd2.c1
    by_cases hb : x ≤ big
    · have hres := Lib.hid (hyes.out hb)
      have hsg := Lib.hid (fun W => signed_calls (decide (m < 0)) x W hb)
      rw [joinV_le hb]
      clear hno hyes hb
      go_wp2_with fail
      refine (hsg.out _).mono ?_; rintro e w4 ⟨rfl, rfl⟩
      clear hsg
      obtain ⟨z, hz⟩ : ∃ z, z = sgnV (decide (m < 0)) x := ⟨_, rfl⟩
      rw [← hz] at hres ⊢
      clear hz
      go_wp2_with fail
      go_ret2
      exact ⟨by rw [hres.out]; rfl, kB⟩
    · have hres := Lib.hid (hno.out hb)
      rw [joinV_gt hb]
      clear hno hyes hb
      go_wp2_with fail
      go_ret2
      exact ⟨by rw [hres.out]; rfl, kB⟩

end Go.Proofs.YtmbpldnclnahmaaDoor
