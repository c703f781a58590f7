/- Plain mathematics of UTF-8: what is read whole is a scalar's bytes; walking through a text; where a text can't become well-formed any more. -/
import Derived.Test.YtobaclonacpoeaaDoorUtfPlainD
namespace Go.Proofs.YtobaclonacpoeaaDoor.Utf

theorem ofNat_toNat (c : UInt8) {n : Nat} (h : n = c.toNat) : UInt8.ofNat n = c := by
  subst h; simp

theorem fits_one {x : Int × Int} {bs : List (Int × Int)} {l : List UInt8} (h : (fits (x :: bs) l).2 = true) : ∃ c cs, l = c :: cs ∧ x.1 ≤ c.toNat ∧ (c.toNat : Int) ≤ x.2 ∧ (fits bs cs).2 = true := by
  cases l with
  | nil => simp [fits] at h
  | cons c cs =>
    simp only [fits] at h
    cases hc : inR x.1 x.2 c.toNat with
    | false => simp [hc] at h
    | true =>
      simp only [hc, if_true] at h
      exact ⟨c, cs, rfl, (inR_le hc).1, (inR_le hc).2, h⟩

/-- what is read whole is a scalar, and its bytes are those that stand there -/
theorem whole_bytes {l : List UInt8} (h : (front l).2 = true) : isScalar (val (l.take (front l).1)) = true ∧ bytes (val (l.take (front l).1)) = l.take (front l).1 := by
  rcases front_cases l with e | ⟨b, hb, e⟩
  · rw [e] at h; cases h
  · rw [e] at h ⊢
    have hlen := fits_whole b l h
    have done : ∀ (n : Nat) (t : List UInt8), val t = (n : Int) → (n < 55296 ∨ 57343 < n) → n < 1114112 → bytesN n = t → isScalar (val t) = true ∧ bytes (val t) = t := by
      intro n t hv hs hn hbn
      have hi : isScalar (val t) = true := by rw [isScalar_iff, hv]; omega
      refine ⟨hi, ?_⟩
      rw [bytes, if_pos hi, hv, Int.toNat_natCast, hbn]
    rw [hlen]
    simp only [shapes, List.mem_cons, List.not_mem_nil, or_false] at hb
    rcases hb with rfl | rfl | rfl | rfl | rfl | rfl | rfl | rfl | rfl
    · obtain ⟨c, cs, rfl, h0, h1, -⟩ := fits_one h
      simp only at h0 h1
      refine done c.toNat _ (val1 c) (by omega) (by omega) ?_
      rw [bytesN, if_pos (by omega), ofNat_toNat c rfl]; rfl
    · obtain ⟨c, cs, rfl, h0, h1, h⟩ := fits_one h
      obtain ⟨d, ds, rfl, k0, k1, -⟩ := fits_one h
      simp only at h0 h1 k0 k1
      refine done _ _ (val2 c d (by omega) (by omega)) (by omega) (by omega) ?_
      rw [bytesN, if_neg (by omega), if_pos (by omega), ofNat_toNat c (by omega), ofNat_toNat d (by omega)]; rfl
    all_goals
      first
      | (obtain ⟨c, cs, rfl, h0, h1, h⟩ := fits_one h
         obtain ⟨d, ds, rfl, k0, k1, h⟩ := fits_one h
         obtain ⟨g, gs, rfl, m0, m1, h⟩ := fits_one h
         obtain ⟨p, ps, rfl, n0, n1, -⟩ := fits_one h
         simp only at h0 h1 k0 k1 m0 m1 n0 n1
         refine done _ _ (val4 c d g p (by omega) (by omega)) (by omega) (by omega) ?_
         rw [bytesN, if_neg (by omega), if_neg (by omega), if_neg (by omega), ofNat_toNat c (by omega), ofNat_toNat d (by omega), ofNat_toNat g (by omega), ofNat_toNat p (by omega)]; rfl)
      | (obtain ⟨c, cs, rfl, h0, h1, h⟩ := fits_one h
         obtain ⟨d, ds, rfl, k0, k1, h⟩ := fits_one h
         obtain ⟨g, gs, rfl, m0, m1, -⟩ := fits_one h
         simp only at h0 h1 k0 k1 m0 m1
         refine done _ _ (val3 c d g (by omega) (by omega)) (by omega) (by omega) ?_
         rw [bytesN, if_neg (by omega), if_neg (by omega), if_pos (by omega), ofNat_toNat c (by omega), ofNat_toNat d (by omega), ofNat_toNat g (by omega)]; rfl)

theorem fits_half {b : List (Int × Int)} {l : List UInt8} (h : (fits b l).2 = false) : (fits b l).1 < b.length := by
  have : ∀ (b : List (Int × Int)) (l : List UInt8), (fits b l).2 = false → (fits b l).1 < b.length := by
    intro b
    induction b with
    | nil => intro l h; simp [fits] at h
    | cons x bs ih =>
      intro l h
      cases l with
      | nil => simp [fits]
      | cons c cs =>
        simp only [fits] at h ⊢
        split
        · rename_i hc
          simp only [hc, if_true] at h
          have := ih cs h
          simp; omega
        · simp
  exact this b l h

theorem front_half {l : List UInt8} (h : (front l).2 = false) : (front l).1 ≤ 3 := by
  rcases front_cases l with e | ⟨b, hb, e⟩
  · rw [e]; simp
  · rw [e] at h ⊢
    have := fits_half h
    have := shapes_len b hb
    omega

end Go.Proofs.YtobaclonacpoeaaDoor.Utf
