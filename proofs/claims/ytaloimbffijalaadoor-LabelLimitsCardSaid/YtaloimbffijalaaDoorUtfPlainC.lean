/- Plain mathematics of UTF-8: going through a text scalar by scalar. -/
import Derived.Test.YtaloimbffijalaaDoorUtfPlainB
set_option linter.unusedVariables false
set_option linter.unusedSimpArgs false
namespace Go.Proofs.YtaloimbffijalaaDoor.Utf

theorem fits_le : ∀ (b : List (Int × Int)) (l : List UInt8), (fits b l).1 ≤ l.length ∧ (fits b l).1 ≤ b.length
  | [], l => by simp [fits]
  | _ :: _, [] => by simp [fits]
  | x :: bs, c :: cs => by
    have := fits_le bs cs
    simp only [fits]
    split
    · simp; omega
    · simp

theorem fits_whole : ∀ (b : List (Int × Int)) (l : List UInt8), (fits b l).2 = true → (fits b l).1 = b.length
  | [], l => by simp [fits]
  | _ :: _, [] => by simp [fits]
  | x :: bs, c :: cs => by
    have := fits_whole bs cs
    simp only [fits]
    split
    · intro h; simp [this h]
    · simp

/-- what was found whole, or not cut off at the text's end, stays with whatever stands behind -/
theorem fits_append : ∀ (b : List (Int × Int)) (l r : List UInt8), (fits b l).2 = true ∨ (fits b l).1 < l.length → fits b (l ++ r) = fits b l
  | [], l, r => by simp [fits]
  | _ :: _, [], r => by simp [fits]
  | x :: bs, c :: cs, r => by
    have ih := fits_append bs cs r
    simp only [fits, List.cons_append]
    split
    · intro h
      rw [ih (by simpa using h)]
    · intro _; rfl

theorem shapes_len (b : List (Int × Int)) (h : b ∈ shapes) : 1 ≤ b.length ∧ b.length ≤ 4 := by
  simp only [shapes, List.mem_cons, List.not_mem_nil, or_false] at h
  rcases h with rfl | rfl | rfl | rfl | rfl | rfl | rfl | rfl | rfl <;> simp

theorem front_cases (l : List UInt8) : front l = (0, false) ∨ ∃ b, b ∈ shapes ∧ front l = fits b l := by
  cases l with
  | nil => left; rfl
  | cons c cs =>
    simp only [front]
    cases h : shapes.find? (opens c) with
    | none => left; rfl
    | some b => right; exact ⟨b, List.mem_of_find?_eq_some h, rfl⟩

theorem front_le (l : List UInt8) : (front l).1 ≤ l.length ∧ (front l).1 ≤ 4 := by
  rcases front_cases l with h | ⟨b, hb, h⟩ <;> rw [h]
  · simp
  · have := fits_le b l
    have := shapes_len b hb
    omega

theorem front_whole {l : List UInt8} (h : (front l).2 = true) : 1 ≤ (front l).1 := by
  rcases front_cases l with e | ⟨b, hb, e⟩
  · rw [e] at h; cases h
  · rw [e] at h ⊢
    have := fits_whole b l h
    have := shapes_len b hb
    omega

theorem front_append (l r : List UInt8) (hl : l ≠ []) (h : (front l).2 = true ∨ (front l).1 < l.length) : front (l ++ r) = front l := by
  cases l with
  | nil => exact absurd rfl hl
  | cons c cs =>
    have e : front (c :: cs ++ r) = match shapes.find? (opens c) with | some b => fits b (c :: cs ++ r) | none => (0, false) := rfl
    have e' : front (c :: cs) = match shapes.find? (opens c) with | some b => fits b (c :: cs) | none => (0, false) := rfl
    rw [e' ] at h ⊢
    rw [e]
    cases hf : shapes.find? (opens c) with
    | none => rfl
    | some b =>
      rw [hf] at h
      exact fits_append b (c :: cs) r h

/-- through a text: how many bytes were gone through, how many scalars; is that the whole text? -/
def stepsF : Nat → List UInt8 → Nat × Nat × Bool
  | 0, l => (0, 0, l.isEmpty)
  | f + 1, l => if l.isEmpty then (0, 0, true) else if (front l).2 then ((front l).1 + (stepsF f (l.drop (front l).1)).1, (stepsF f (l.drop (front l).1)).2.1 + 1, (stepsF f (l.drop (front l).1)).2.2) else ((front l).1, 0, false)
def steps (l : List UInt8) : Nat × Nat × Bool := stepsF l.length l

theorem stepsF_eq : ∀ (f : Nat) (l : List UInt8), l.length ≤ f → stepsF f l = steps l := by
  have H : ∀ (n f g : Nat) (l : List UInt8), l.length ≤ n → l.length ≤ f → l.length ≤ g → stepsF f l = stepsF g l := by
    intro n
    induction n with
    | zero =>
      intro f g l hn hf hg
      obtain rfl : l = [] := List.eq_nil_of_length_eq_zero (by omega)
      cases f <;> cases g <;> simp [stepsF]
    | succ n ih =>
      intro f g l hn hf hg
      by_cases hl : l = []
      · subst hl; cases f <;> cases g <;> simp [stepsF]
      · have : l.length ≠ 0 := fun e => hl (List.eq_nil_of_length_eq_zero e)
        obtain ⟨f, rfl⟩ : ∃ k, f = k + 1 := ⟨f - 1, by omega⟩
        obtain ⟨g, rfl⟩ : ∃ k, g = k + 1 := ⟨g - 1, by omega⟩
        simp only [stepsF]
        by_cases hw : (front l).2 = true
        · have h1 := front_whole hw
          rw [ih f g (l.drop (front l).1) (by simp; omega) (by simp; omega) (by simp; omega)]
        · simp [hw]
  exact fun f l h => H l.length f l.length l (Nat.le_refl _) h (Nat.le_refl _)

theorem steps_nil : steps [] = (0, 0, true) := rfl
theorem steps_whole {l : List UInt8} (hl : l ≠ []) (hw : (front l).2 = true) :
    steps l = ((front l).1 + (steps (l.drop (front l).1)).1, (steps (l.drop (front l).1)).2.1 + 1, (steps (l.drop (front l).1)).2.2) := by
  have hp : l.length ≠ 0 := fun e => hl (List.eq_nil_of_length_eq_zero e)
  have h1 := front_whole hw
  obtain ⟨k, hk⟩ : ∃ k, l.length = k + 1 := ⟨l.length - 1, by omega⟩
  have e : l.isEmpty = false := by simpa using hl
  rw [steps, hk, stepsF, if_neg (by simp [e]), if_pos hw, stepsF_eq k _ (by simp; omega)]
theorem steps_not {l : List UInt8} (hl : l ≠ []) (hw : (front l).2 = false) : steps l = ((front l).1, 0, false) := by
  have hp : l.length ≠ 0 := fun e => hl (List.eq_nil_of_length_eq_zero e)
  obtain ⟨k, hk⟩ : ∃ k, l.length = k + 1 := ⟨l.length - 1, by omega⟩
  have e : l.isEmpty = false := by simpa using hl
  rw [steps, hk, stepsF, if_neg (by simp [e]), if_neg (by simp [hw])]

/-- the length of the longest beginning that a well-formed text can have; -1: the text is well-formed -/
def bad (l : List UInt8) : Int := if (steps l).2.2 then -1 else (steps l).1
/-- how many scalars; -1: the text is not well-formed -/
def count (l : List UInt8) : Int := if (steps l).2.2 then (steps l).2.1 else -1
/-- the scalar at a place, and how many bytes it has -/
def next (l : List UInt8) (i : Int) : Int × Nat × Bool :=
  if 0 ≤ i ∧ i < l.length ∧ (front (l.drop i.toNat)).2 = true then (val ((l.drop i.toNat).take (front (l.drop i.toNat)).1), (front (l.drop i.toNat)).1, true) else (0, 0, false)

/-- so far: i bytes and n scalars of the text are gone through -/
structure Far (l : List UInt8) (i n : Nat) : Prop where
  inL : i ≤ l.length
  num : (steps l).1 = i + (steps (l.drop i)).1
  cnt : (steps l).2.1 = n + (steps (l.drop i)).2.1
  all : (steps l).2.2 = (steps (l.drop i)).2.2
theorem far_zero (l : List UInt8) : Far l 0 0 := ⟨by omega, by simp, by simp, by simp⟩
theorem drop_ne {l : List UInt8} {i : Nat} (h : i < l.length) : l.drop i ≠ [] := by
  intro e
  have := congrArg List.length e
  simp at this
  omega
theorem far_yes {l : List UInt8} {i n : Nat} (h : Far l i n) (hi : i < l.length) (hw : (front (l.drop i)).2 = true) : Far l (i + (front (l.drop i)).1) (n + 1) := by
  have e := steps_whole (drop_ne hi) hw
  have hle := (front_le (l.drop i)).1
  have h1 := h.num; have h2 := h.cnt; have h3 := h.all
  rw [e] at h1 h2 h3
  simp only [List.drop_drop] at h1 h2 h3
  simp only [List.length_drop] at hle
  exact ⟨by omega, by omega, by omega, h3⟩
theorem far_no {l : List UInt8} {i n : Nat} (h : Far l i n) (hi : i < l.length) (hw : (front (l.drop i)).2 = false) : bad l = (i + (front (l.drop i)).1 : Nat) ∧ count l = -1 := by
  have e := steps_not (drop_ne hi) hw
  have h1 := h.num; have h3 := h.all
  rw [e] at h1 h3
  simp only at h1 h3
  simp [bad, count, h3, h1]
theorem far_end {l : List UInt8} {i n : Nat} (h : Far l i n) (hi : l.length ≤ i) : bad l = -1 ∧ count l = n := by
  have h2 := h.cnt; have h3 := h.all
  rw [List.drop_of_length_le hi, steps_nil] at h2 h3
  simp only at h2 h3
  simp [bad, count, h3, h2]

/-- the bytes of a scalar -/
def bytesN (n : Nat) : List UInt8 :=
  if n < 128 then [UInt8.ofNat n]
  else if n < 2048 then [UInt8.ofNat (192 + n / 64), UInt8.ofNat (128 + n % 64)]
  else if n < 65536 then [UInt8.ofNat (224 + n / 4096), UInt8.ofNat (128 + n / 64 % 64), UInt8.ofNat (128 + n % 64)]
  else [UInt8.ofNat (240 + n / 262144), UInt8.ofNat (128 + n / 4096 % 64), UInt8.ofNat (128 + n / 64 % 64), UInt8.ofNat (128 + n % 64)]
def bytes (r : Int) : List UInt8 := if isScalar r then bytesN r.toNat else []

end Go.Proofs.YtaloimbffijalaaDoor.Utf
