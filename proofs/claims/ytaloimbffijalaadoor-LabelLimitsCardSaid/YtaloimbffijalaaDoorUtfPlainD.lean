/- Plain mathematics of UTF-8: a scalar's bytes are read as it; what is read whole is a scalar's bytes. -/
import Derived.Test.YtaloimbffijalaaDoorUtfPlainC
set_option linter.unusedVariables false
set_option linter.unusedSimpArgs false
namespace Go.Proofs.YtaloimbffijalaaDoor.Utf

theorem find_of {α : Type} {p : α → Bool} {b : α} : ∀ {l : List α}, b ∈ l → p b = true → (∀ x, x ∈ l → p x = true → x = b) → l.find? p = some b
  | [], h, _, _ => by cases h
  | a :: l, h, hp, hu => by
    rw [List.find?_cons]
    cases ha : p a with
    | true => simp [hu a (by simp) ha]
    | false =>
      simp only
      refine find_of (l := l) ?_ hp (fun x hx => hu x (by simp [hx]))
      rcases List.mem_cons.1 h with e | e
      · subst e; rw [hp] at ha; cases ha
      · exact e

theorem inR_true {lo hi c : Int} (h0 : lo ≤ c) (h1 : c ≤ hi) : inR lo hi c = true := by simp [inR, h0, h1]
theorem inR_le {lo hi c : Int} (h : inR lo hi c = true) : lo ≤ c ∧ c ≤ hi := by simpa [inR] using h

/-- the shape of a first byte is one alone -/
theorem shape_one {c : UInt8} {b : List (Int × Int)} (hb : b ∈ shapes) (ho : opens c b = true) : shapes.find? (opens c) = some b := by
  refine find_of hb ho (fun x hx hox => ?_)
  simp only [shapes, List.mem_cons, List.not_mem_nil, or_false] at hb hx
  rcases hb with rfl | rfl | rfl | rfl | rfl | rfl | rfl | rfl | rfl <;> rcases hx with rfl | rfl | rfl | rfl | rfl | rfl | rfl | rfl | rfl <;>
    first
    | rfl
    | (exfalso
       have h1 := inR_le ho
       have h2 := inR_le hox
       simp only at h1 h2
       omega)

theorem front_shape {c : UInt8} {cs : List UInt8} {b : List (Int × Int)} (hb : b ∈ shapes) (ho : opens c b = true) : front (c :: cs) = fits b (c :: cs) := by
  simp only [front, shape_one hb ho]

theorem fits_cons {x : Int × Int} {bs : List (Int × Int)} {c : UInt8} {cs : List UInt8} (h0 : x.1 ≤ c.toNat) (h1 : (c.toNat : Int) ≤ x.2) : fits (x :: bs) (c :: cs) = ((fits bs cs).1 + 1, (fits bs cs).2) := by
  simp only [fits, inR_true h0 h1, if_true]

theorem toNat_of {n : Nat} (h : n < 256) : (UInt8.ofNat n).toNat = n := by
  simp [Nat.mod_eq_of_lt h]

theorem xor_sub : ∀ c, c < 256 → (192 ≤ c → c < 224 → c ^^^ 192 = c - 192) ∧ (224 ≤ c → c < 240 → c ^^^ 224 = c - 224) ∧ (240 ≤ c → c < 248 → c ^^^ 240 = c - 240) := by decide +kernel

theorem val1 (a : UInt8) : val [a] = (a.toNat : Nat) := by simp [val, joinOn, mark]
theorem val2 (a b : UInt8) (h : 192 ≤ a.toNat) (h2 : a.toNat < 224) : val [a, b] = ((a.toNat - 192) * 64 + b.toNat % 64 : Nat) := by
  have := (xor_sub a.toNat (UInt8.toNat_lt a)).1 h h2
  simp [val, joinOn, mark, this]
theorem val3 (a b c : UInt8) (h : 224 ≤ a.toNat) (h2 : a.toNat < 240) : val [a, b, c] = (((a.toNat - 224) * 64 + b.toNat % 64) * 64 + c.toNat % 64 : Nat) := by
  have := (xor_sub a.toNat (UInt8.toNat_lt a)).2.1 h h2
  simp [val, joinOn, mark, this]
theorem val4 (a b c d : UInt8) (h : 240 ≤ a.toNat) (h2 : a.toNat < 248) : val [a, b, c, d] = ((((a.toNat - 240) * 64 + b.toNat % 64) * 64 + c.toNat % 64) * 64 + d.toNat % 64 : Nat) := by
  have := (xor_sub a.toNat (UInt8.toNat_lt a)).2.2 h h2
  simp [val, joinOn, mark, this]

/-- what a text that begins with a scalar's bytes begins with -/
theorem front_bytes (n : Nat) (hn : n < 1114112) (hs : n < 55296 ∨ 57343 < n) (r : List UInt8) : front (bytesN n ++ r) = ((bytesN n).length, true) ∧ val (bytesN n) = n := by
  unfold bytesN
  by_cases h1 : n < 128
  · rw [if_pos h1]
    have e := toNat_of (n := n) (by omega)
    refine ⟨?_, by rw [val1, e]⟩
    rw [List.cons_append, front_shape (b := [(0, 127)]) (by simp [shapes]) (inR_true (by rw [e]; simp) (by rw [e]; simp; omega)), fits_cons (by rw [e]; simp) (by rw [e]; simp; omega)]
    simp [fits]
  · rw [if_neg h1]
    by_cases h2 : n < 2048
    · rw [if_pos h2]
      have e := toNat_of (n := 192 + n / 64) (by omega)
      have f := toNat_of (n := 128 + n % 64) (by omega)
      refine ⟨?_, by rw [val2 _ _ (by omega) (by omega), e, f]; omega⟩
      rw [List.cons_append, List.cons_append, front_shape (b := [(194, 223), (128, 191)]) (by simp [shapes]) (inR_true (by rw [e]; simp; omega) (by rw [e]; simp; omega)),
        fits_cons (by rw [e]; simp; omega) (by rw [e]; simp; omega), fits_cons (by rw [f]; simp; omega) (by rw [f]; simp; omega)]
      simp [fits]
    · rw [if_neg h2]
      by_cases h3 : n < 65536
      · rw [if_pos h3]
        have e := toNat_of (n := 224 + n / 4096) (by omega)
        have f := toNat_of (n := 128 + n / 64 % 64) (by omega)
        have g := toNat_of (n := 128 + n % 64) (by omega)
        refine ⟨?_, by rw [val3 _ _ _ (by omega) (by omega), e, f, g]; omega⟩
        rw [List.cons_append, List.cons_append, List.cons_append]
        have key : ∃ lo hi lo2 hi2, [(lo, hi), (lo2, hi2), (128, 191)] ∈ shapes ∧ lo ≤ ((224 + n / 4096 : Nat) : Int) ∧ ((224 + n / 4096 : Nat) : Int) ≤ hi ∧ lo2 ≤ ((128 + n / 64 % 64 : Nat) : Int) ∧ ((128 + n / 64 % 64 : Nat) : Int) ≤ hi2 := by
          by_cases k1 : n < 4096
          · exact ⟨224, 224, 160, 191, by simp [shapes], by omega, by omega, by omega, by omega⟩
          · by_cases k2 : n < 53248
            · exact ⟨225, 236, 128, 191, by simp [shapes], by omega, by omega, by omega, by omega⟩
            · by_cases k3 : n < 57344
              · exact ⟨237, 237, 128, 159, by simp [shapes], by omega, by omega, by omega, by omega⟩
              · exact ⟨238, 239, 128, 191, by simp [shapes], by omega, by omega, by omega, by omega⟩
        obtain ⟨lo, hi, lo2, hi2, hm, a1, a2, a3, a4⟩ := key
        rw [front_shape hm (inR_true (by rw [e]; exact a1) (by rw [e]; exact a2)), fits_cons (by rw [e]; exact a1) (by rw [e]; exact a2), fits_cons (by rw [f]; exact a3) (by rw [f]; exact a4),
          fits_cons (by rw [g]; simp; omega) (by rw [g]; simp; omega)]
        simp [fits]
      · rw [if_neg h3]
        have e := toNat_of (n := 240 + n / 262144) (by omega)
        have f := toNat_of (n := 128 + n / 4096 % 64) (by omega)
        have g := toNat_of (n := 128 + n / 64 % 64) (by omega)
        have k := toNat_of (n := 128 + n % 64) (by omega)
        refine ⟨?_, by rw [val4 _ _ _ _ (by omega) (by omega), e, f, g, k]; omega⟩
        rw [List.cons_append, List.cons_append, List.cons_append, List.cons_append]
        have key : ∃ lo hi lo2 hi2, [(lo, hi), (lo2, hi2), (128, 191), (128, 191)] ∈ shapes ∧ lo ≤ ((240 + n / 262144 : Nat) : Int) ∧ ((240 + n / 262144 : Nat) : Int) ≤ hi ∧ lo2 ≤ ((128 + n / 4096 % 64 : Nat) : Int) ∧ ((128 + n / 4096 % 64 : Nat) : Int) ≤ hi2 := by
          by_cases k1 : n < 262144
          · exact ⟨240, 240, 144, 191, by simp [shapes], by omega, by omega, by omega, by omega⟩
          · by_cases k2 : n < 1048576
            · exact ⟨241, 243, 128, 191, by simp [shapes], by omega, by omega, by omega, by omega⟩
            · exact ⟨244, 244, 128, 143, by simp [shapes], by omega, by omega, by omega, by omega⟩
        obtain ⟨lo, hi, lo2, hi2, hm, a1, a2, a3, a4⟩ := key
        rw [front_shape hm (inR_true (by rw [e]; exact a1) (by rw [e]; exact a2)), fits_cons (by rw [e]; exact a1) (by rw [e]; exact a2), fits_cons (by rw [f]; exact a3) (by rw [f]; exact a4),
          fits_cons (by rw [g]; simp; omega) (by rw [g]; simp; omega), fits_cons (by rw [k]; simp; omega) (by rw [k]; simp; omega)]
        simp [fits]

theorem isScalar_iff (r : Int) : isScalar r = true ↔ (0 ≤ r ∧ r < 55296) ∨ (57343 < r ∧ r < 1114112) := by
  simp [isScalar]

theorem bytes_pos (r : Int) (h : isScalar r = true) : 1 ≤ (bytes r).length ∧ (bytes r).length ≤ 4 := by
  have e : bytes r = bytesN r.toNat := by simp [bytes, h]
  rw [e]; unfold bytesN
  repeat' split
  all_goals simp

/-- a scalar's bytes, wherever they stand, are read as it -/
theorem back (r : Int) (h : isScalar r = true) (a c : List UInt8) : next (a ++ bytes r ++ c) a.length = (r, (bytes r).length, true) ∧ bad (bytes r) = -1 ∧ count (bytes r) = 1 := by
  have hr := (isScalar_iff r).1 h
  have e : bytes r = bytesN r.toNat := by simp [bytes, h]
  have hp := bytes_pos r h
  have fb := fun t => front_bytes r.toNat (by omega) (by omega) t
  rw [← e] at fb
  have hd : (a ++ bytes r ++ c).drop a.length = bytes r ++ c := by rw [List.append_assoc, List.drop_left]
  refine ⟨?_, ?_⟩
  · unfold next
    rw [Int.toNat_natCast, hd, (fb c).1]
    rw [if_pos ⟨by omega, by simp; omega, rfl⟩]
    simp only [List.take_left]
    rw [(fb c).2]
    simp only [Prod.mk.injEq, and_true]
    omega
  · have hn : bytes r ≠ [] := by intro x; rw [x] at hp; simp at hp
    have f0 := (fb []).1
    rw [List.append_nil] at f0
    have s := steps_whole hn (by rw [f0])
    rw [f0] at s
    simp only [List.drop_length, steps_nil] at s
    simp [bad, count, s]

theorem steps_le : ∀ (n : Nat) (l : List UInt8), l.length ≤ n → (steps l).1 ≤ l.length ∧ ((steps l).2.2 = true → (steps l).1 = l.length) ∧ (steps l).2.1 ≤ (steps l).1
  | 0, l, h => by
    obtain rfl : l = [] := List.eq_nil_of_length_eq_zero (by omega)
    simp [steps_nil]
  | n + 1, l, h => by
    by_cases hl : l = []
    · subst hl; simp [steps_nil]
    · have hf := front_le l
      cases hw : (front l).2 with
      | true =>
        have h1 := front_whole hw
        have ih := steps_le n (l.drop (front l).1) (by simp; omega)
        rw [steps_whole hl hw]
        simp only [List.length_drop] at ih
        refine ⟨by simp; omega, fun hh => ?_, by simp; omega⟩
        have := ih.2.1 hh
        simp; omega
      | false =>
        rw [steps_not hl hw]
        simp; omega

/-- texts one behind the other -/
theorem steps_append : ∀ (n : Nat) (a b : List UInt8), a.length ≤ n → ((steps a).2.2 = true → steps (a ++ b) = (a.length + (steps b).1, (steps a).2.1 + (steps b).2.1, (steps b).2.2)) ∧
    ((steps a).2.2 = false → (steps a).1 < a.length → steps (a ++ b) = steps a)
  | 0, a, b, h => by
    obtain rfl : a = [] := List.eq_nil_of_length_eq_zero (by omega)
    simp [steps_nil]
  | n + 1, a, b, h => by
    by_cases hl : a = []
    · subst hl; simp [steps_nil]
    · have hf := front_le a
      have hlb : a ++ b ≠ [] := by simp [hl]
      cases hw : (front a).2 with
      | true =>
        have h1 := front_whole hw
        have fa := front_append a b hl (Or.inl hw)
        have ih := steps_append n (a.drop (front a).1) b (by simp; omega)
        have e : (a ++ b).drop (front a).1 = a.drop (front a).1 ++ b := List.drop_append_of_le_length hf.1
        rw [steps_whole hlb (by rw [fa]; exact hw), fa, e, steps_whole hl hw]
        simp only [List.length_drop] at ih
        refine ⟨fun hh => ?_, fun hh hlt => ?_⟩
        · rw [ih.1 hh]
          simp only [Prod.mk.injEq, and_true]
          omega
        · have hlt' : (steps (a.drop (front a).1)).1 < a.length - (front a).1 := by simp only at hlt; omega
          rw [ih.2 hh hlt']
      | false =>
        rw [steps_not hl hw]
        refine ⟨fun hh => by simp at hh, fun _ hlt => ?_⟩
        have fa := front_append a b hl (Or.inr hlt)
        rw [steps_not hlb (by rw [fa]; exact hw), fa]

theorem bad_count (a : List UInt8) : (count a < 0 ∧ 0 ≤ bad a ∧ (steps a).2.2 = false ∧ bad a = (steps a).1 ∧ count a = -1) ∨ (0 ≤ count a ∧ bad a = -1 ∧ (steps a).2.2 = true ∧ count a = (steps a).2.1) := by
  unfold bad count
  cases h : (steps a).2.2 <;> simp

theorem joins_good (a b : List UInt8) (ha : 0 ≤ count a) (hb : 0 ≤ count b) : count (a ++ b) = count a + count b ∧ bad (a ++ b) = -1 := by
  rcases bad_count a with ⟨h, _⟩ | ⟨_, _, wa, ca⟩
  · omega
  · rcases bad_count b with ⟨h, _⟩ | ⟨_, _, wb, cb⟩
    · omega
    · have := (steps_append _ a b (Nat.le_refl _)).1 wa
      rw [ca, cb]
      simp [count, bad, this, wb]
theorem joins_bad (a b : List UInt8) (ha : count a < 0) : 0 ≤ bad a ∧ (bad a = a.length ∨ bad (a ++ b) = bad a) := by
  rcases bad_count a with ⟨_, h0, wa, ba, _⟩ | ⟨h, _⟩
  · refine ⟨h0, ?_⟩
    have hle := (steps_le _ a (Nat.le_refl _)).1
    by_cases hlt : (steps a).1 < a.length
    · right
      have := (steps_append _ a b (Nat.le_refl _)).2 wa hlt
      simp [bad, this]
    · left; omega
  · omega
theorem joins_half (a b : List UInt8) (ha : 0 ≤ count a) (hb : count b < 0) : bad (a ++ b) = a.length + bad b := by
  rcases bad_count a with ⟨h, _⟩ | ⟨_, _, wa, ca⟩
  · omega
  · rcases bad_count b with ⟨_, _, wb, bb, _⟩ | ⟨h, _⟩
    · have := (steps_append _ a b (Nat.le_refl _)).1 wa
      rw [bb]
      simp [bad, this, wb]
    · omega

end Go.Proofs.YtaloimbffijalaaDoor.Utf
