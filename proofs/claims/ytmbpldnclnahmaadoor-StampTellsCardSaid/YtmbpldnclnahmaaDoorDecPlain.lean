/- Plain mathematics: decimals: numbers by their digits, noughts taken off, texts taken apart. No program. -/
set_option linter.unusedVariables false
set_option linter.unusedSimpArgs false
namespace Go.Proofs.YtmbpldnclnahmaaDoor.Dc

/-! ### a number by its digits -/
def valN (l : List Nat) : Nat := l.foldl (fun n d => 10 * n + d) 0
theorem foldN (l : List Nat) : ∀ a, l.foldl (fun n d => 10 * n + d) a = a * 10 ^ l.length + valN l := by
  induction l with
  | nil => intro a; simp [valN]
  | cons d l ih =>
    intro a
    have h1 := ih (10 * a + d)
    have h2 := ih (10 * 0 + d)
    unfold valN at *
    simp only [List.foldl_cons, List.length_cons, Nat.pow_succ] at *
    rw [h1, h2]
    simp only [Nat.mul_zero, Nat.zero_add, Nat.add_mul]
    rw [Nat.add_assoc]
    congr 1
    rw [Nat.mul_comm 10 a, Nat.mul_assoc, Nat.mul_comm 10]
theorem valN_nil : valN [] = 0 := rfl
theorem valN_app (a b : List Nat) : valN (a ++ b) = valN a * 10 ^ b.length + valN b := by
  show (a ++ b).foldl _ 0 = _
  rw [List.foldl_append, foldN b]; rfl
theorem valN_cons (d : Nat) (l : List Nat) : valN (d :: l) = d * 10 ^ l.length + valN l := by
  have := valN_app [d] l
  simpa [valN] using this
theorem valN_snoc (l : List Nat) (d : Nat) : valN (l ++ [d]) = 10 * valN l + d := by
  rw [valN_app]; simp [valN]; omega
theorem valN_lt (l : List Nat) (h : ∀ d ∈ l, d ≤ 9) : valN l < 10 ^ l.length := by
  induction l with
  | nil => simp [valN]
  | cons d l ih =>
    rw [valN_cons, List.length_cons, Nat.pow_succ]
    have h1 := ih (fun x hx => h x (by simp [hx]))
    have h2 := h d (by simp)
    have h3 : d * 10 ^ l.length ≤ 9 * 10 ^ l.length := Nat.mul_le_mul_right _ h2
    omega
theorem valN_ge (d : Nat) (l : List Nat) (h : d ≠ 0) : 10 ^ l.length ≤ valN (d :: l) := by
  rw [valN_cons]
  have : 1 * 10 ^ l.length ≤ d * 10 ^ l.length := Nat.mul_le_mul_right _ (by omega)
  omega
theorem valN_zeros (n : Nat) (l : List Nat) : valN (List.replicate n 0 ++ l) = valN l := by
  induction n with
  | zero => simp
  | succ n ih => rw [List.replicate_succ, List.cons_append, valN_cons, ih]; simp
theorem valN_pad (l : List Nat) (n : Nat) : valN (l ++ List.replicate n 0) = valN l * 10 ^ n := by
  rw [valN_app]
  have := valN_zeros n []
  simp [valN] at this
  simp [valN, this]

/-- the digits of a number, the first one first; those of 0: none -/
def digs (n : Nat) : List Nat := if h : n = 0 then [] else digs (n / 10) ++ [n % 10]
termination_by n
decreasing_by omega
theorem digs_zero : digs 0 = [] := by unfold digs; simp
theorem digs_pos {n : Nat} (h : n ≠ 0) : digs n = digs (n / 10) ++ [n % 10] := by rw [digs]; simp [h]
theorem digs_le (n : Nat) : ∀ d ∈ digs n, d ≤ 9 := by
  induction n using Nat.strongRecOn with
  | ind n ih =>
    by_cases h : n = 0
    · subst h; rw [digs_zero]; simp
    · rw [digs_pos h]
      intro d hd
      rcases List.mem_append.1 hd with hd | hd
      · exact ih (n / 10) (by omega) d hd
      · obtain rfl : d = n % 10 := by simpa using hd
        omega
theorem digs_val (n : Nat) : valN (digs n) = n := by
  induction n using Nat.strongRecOn with
  | ind n ih =>
    by_cases h : n = 0
    · subst h; rw [digs_zero]; rfl
    · rw [digs_pos h, valN_snoc, ih (n / 10) (by omega)]; omega
theorem digs_head (n : Nat) : ∀ d l, digs n = d :: l → d ≠ 0 := by
  induction n using Nat.strongRecOn with
  | ind n ih =>
    by_cases h : n = 0
    · subst h; rw [digs_zero]; intro d l e; cases e
    · rw [digs_pos h]
      intro d l e
      by_cases h0 : n / 10 = 0
      · rw [h0, digs_zero] at e
        simp at e
        omega
      · cases hd : digs (n / 10) with
        | nil => have := digs_val (n / 10); rw [hd, valN_nil] at this; omega
        | cons x xs =>
          rw [hd] at e
          simp at e
          rw [← e.1]
          exact ih (n / 10) (by omega) x xs hd
theorem digs_len_le {n k : Nat} (h : n < 10 ^ k) : (digs n).length ≤ k := by
  induction k generalizing n with
  | zero => obtain rfl : n = 0 := by simpa using h
            rw [digs_zero]; simp
  | succ k ih =>
    by_cases h0 : n = 0
    · subst h0; rw [digs_zero]; simp
    · rw [digs_pos h0, List.length_append]
      have := ih (n := n / 10) (by rw [Nat.pow_succ] at h; omega)
      simp; omega
theorem digs_lt (n : Nat) : n < 10 ^ (digs n).length := by
  have := valN_lt (digs n) (digs_le n)
  rwa [digs_val] at this
theorem digs_ne {n : Nat} (h : n ≠ 0) : digs n ≠ [] := by
  intro e; have := digs_val n; rw [e, valN_nil] at this; exact h this.symm

/-- a row of digits without a nought ahead is its number's -/
theorem digs_of_head (l : List Nat) (h9 : ∀ d ∈ l, d ≤ 9) (hh : ∀ d r, l = d :: r → d ≠ 0) : digs (valN l) = l := by
  induction hn : l.length generalizing l with
  | zero => obtain rfl := List.eq_nil_of_length_eq_zero hn
            exact digs_zero
  | succ n ih =>
    have hne : l ≠ [] := by intro e; subst e; simp at hn
    obtain ⟨i, d, rfl⟩ : ∃ i d, l = i ++ [d] := ⟨l.dropLast, l.getLast hne, (List.dropLast_concat_getLast hne).symm⟩
    have hd : d ≤ 9 := h9 d (by simp)
    rw [valN_snoc]
    by_cases hi : i = []
    · subst hi
      have : d ≠ 0 := hh d [] rfl
      rw [valN_nil, digs_pos (by omega), show (10 * 0 + d) / 10 = 0 by omega, show (10 * 0 + d) % 10 = d by omega, digs_zero]
    · have hi2 := ih i (fun x hx => h9 x (by simp [hx])) (fun x r e => hh x (r ++ [d]) (by rw [e]; rfl)) (by simp at hn; omega)
      have hz : valN i ≠ 0 := by
        intro e; rw [e, digs_zero] at hi2; exact hi hi2.symm
      rw [digs_pos (by omega), show (10 * valN i + d) / 10 = valN i by omega, show (10 * valN i + d) % 10 = d by omega, hi2]

/-- noughts ahead taken off -/
def trimN : List Nat → List Nat
  | 0 :: l => trimN l
  | l => l
theorem trimN_zero (l : List Nat) : trimN (0 :: l) = trimN l := rfl
theorem trimN_pos (d : Nat) (l : List Nat) (h : d ≠ 0) : trimN (d :: l) = d :: l := by cases d with | zero => exact absurd rfl h | succ d => rfl
theorem trimN_val (l : List Nat) : valN (trimN l) = valN l := by
  induction l with
  | nil => rfl
  | cons d l ih =>
    by_cases h : d = 0
    · subst h; rw [trimN_zero, ih, valN_cons]; simp
    · rw [trimN_pos d l h]
theorem trimN_head (l : List Nat) : ∀ d r, trimN l = d :: r → d ≠ 0 := by
  induction l with
  | nil => intro d r e; cases e
  | cons x l ih =>
    intro d r e
    by_cases h : x = 0
    · subst h; rw [trimN_zero] at e; exact ih d r e
    · rw [trimN_pos x l h] at e; cases e; exact h
theorem trimN_sub (l : List Nat) : ∀ d ∈ trimN l, d ∈ l := by
  induction l with
  | nil => intro d h; exact h
  | cons x l ih =>
    intro d hd
    by_cases h : x = 0
    · subst h; rw [trimN_zero] at hd; exact List.mem_cons_of_mem _ (ih d hd)
    · rwa [trimN_pos x l h] at hd
theorem trimN_len (l : List Nat) : (trimN l).length ≤ l.length := by
  induction l with
  | nil => exact Nat.le_refl _
  | cons x l ih =>
    by_cases h : x = 0
    · subst h; rw [trimN_zero]; simp; omega
    · rw [trimN_pos x l h]; exact Nat.le_refl _
theorem trimN_digs (l : List Nat) (h : ∀ d ∈ l, d ≤ 9) : trimN l = digs (valN l) := by
  rw [← trimN_val l]
  exact (digs_of_head _ (fun d hd => h d (trimN_sub l d hd)) (trimN_head l)).symm

/-! ### which of two is greater, digit by digit -/
/-- of two rows of as many digits -/
def lexN : List Nat → List Nat → Int
  | a :: l, b :: r => if a < b then -1 else if b < a then 1 else lexN l r
  | _, _ => 0
def cmpN (l r : List Nat) : Int := if l.length ≠ r.length then (if l.length < r.length then -1 else 1) else lexN l r
theorem lexN_val : ∀ (l r : List Nat), l.length = r.length → (∀ d ∈ l, d ≤ 9) → (∀ d ∈ r, d ≤ 9) → lexN l r = (if valN l < valN r then -1 else if valN r < valN l then 1 else 0)
  | [], [], _, _, _ => rfl
  | [], _ :: _, h, _, _ => by simp at h
  | _ :: _, [], h, _, _ => by simp at h
  | a :: l, b :: r, h, ha, hb => by
    have hl : l.length = r.length := by simpa using h
    have la := valN_lt l (fun d hd => ha d (by simp [hd]))
    have lb := valN_lt r (fun d hd => hb d (by simp [hd]))
    have ih := lexN_val l r hl (fun d hd => ha d (by simp [hd])) (fun d hd => hb d (by simp [hd]))
    rw [valN_cons, valN_cons, lexN, hl]
    rw [hl] at la
    generalize 10 ^ r.length = p at *
    by_cases h1 : a < b
    · rw [if_pos h1]
      have : (a + 1) * p ≤ b * p := Nat.mul_le_mul_right _ h1
      rw [Nat.add_mul] at this
      rw [if_pos (by omega)]
    · rw [if_neg h1]
      by_cases h2 : b < a
      · rw [if_pos h2]
        have : (b + 1) * p ≤ a * p := Nat.mul_le_mul_right _ h2
        rw [Nat.add_mul] at this
        rw [if_neg (by omega), if_pos (by omega)]
      · rw [if_neg h2, ih]
        obtain rfl : a = b := by omega
        by_cases h3 : valN l < valN r
        · rw [if_pos h3, if_pos (show a * p + valN l < a * p + valN r by omega)]
        · rw [if_neg h3, if_neg (show ¬ a * p + valN l < a * p + valN r by omega)]
          by_cases h4 : valN r < valN l
          · rw [if_pos h4, if_pos (show a * p + valN r < a * p + valN l by omega)]
          · rw [if_neg h4, if_neg (show ¬ a * p + valN r < a * p + valN l by omega)]
theorem cmpN_val (l r : List Nat) (ha : ∀ d ∈ l, d ≤ 9) (hb : ∀ d ∈ r, d ≤ 9) (h1 : ∀ d t, l = d :: t → d ≠ 0) (h2 : ∀ d t, r = d :: t → d ≠ 0) :
    cmpN l r = (if valN l < valN r then -1 else if valN r < valN l then 1 else 0) := by
  unfold cmpN
  by_cases h : l.length = r.length
  · rw [if_neg (by simpa using h), lexN_val l r h ha hb]
  · rw [if_pos h]
    by_cases h3 : l.length < r.length
    · rw [if_pos h3]
      have := valN_lt l ha
      cases r with
      | nil => simp at h3
      | cons d t =>
        have h4 := valN_ge d t (h2 d t rfl)
        have h5 : 10 ^ l.length ≤ 10 ^ t.length := Nat.pow_le_pow_right (by omega) (by simp at h3; omega)
        rw [if_pos (by omega)]
    · rw [if_neg h3]
      have := valN_lt r hb
      cases l with
      | nil => simp at h h3; exact absurd (by rw [h3]; rfl) h
      | cons d t =>
        have h4 := valN_ge d t (h1 d t rfl)
        have h5 : 10 ^ r.length ≤ 10 ^ t.length := Nat.pow_le_pow_right (by omega) (by simp at h h3; omega)
        rw [if_neg (by omega), if_pos (by omega)]

/-! ### noughts behind the point taken off -/
/-- of a number with s digits behind the point: as few as need be -/
def strip : Nat → Nat → Nat × Nat
  | 0, n => (n, 0)
  | s + 1, n => if n % 10 = 0 then strip s (n / 10) else (n, s + 1)
theorem strip_id (s n : Nat) (h : s = 0 ∨ n % 10 ≠ 0) : strip s n = (n, s) := by
  cases s with
  | zero => rfl
  | succ s => rw [strip, if_neg (by omega)]
theorem strip_step (s n : Nat) (h : n % 10 = 0) : strip (s + 1) n = strip s (n / 10) := by rw [strip, if_pos h]
theorem strip_pad (s n k : Nat) : strip (s + k) (n * 10 ^ k) = strip s n := by
  induction k with
  | zero => simp
  | succ k ih => rw [← Nat.add_assoc, Nat.pow_succ, ← Nat.mul_assoc, strip_step _ _ (by omega), Nat.mul_div_cancel _ (by omega), ih]
theorem strip_is (s n : Nat) : (strip s n).2 ≤ s ∧ (strip s n).1 * 10 ^ (s - (strip s n).2) = n ∧ ((strip s n).2 = 0 ∨ (strip s n).1 % 10 ≠ 0) := by
  induction s generalizing n with
  | zero => simp [strip]
  | succ s ih =>
    rw [strip]
    split
    · rename_i h
      obtain ⟨a, b, c⟩ := ih (n / 10)
      refine ⟨by omega, ?_, c⟩
      rw [show s + 1 - (strip s (n / 10)).2 = s - (strip s (n / 10)).2 + 1 by omega, Nat.pow_succ, ← Nat.mul_assoc, b]
      omega
    · rename_i h
      exact ⟨Nat.le_refl _, by simp, Or.inr h⟩
theorem strip_le (s n : Nat) : (strip s n).1 ≤ n := by
  obtain ⟨_, h, _⟩ := strip_is s n
  have : 0 < 10 ^ (s - (strip s n).2) := Nat.pow_pos (by omega)
  generalize 10 ^ (s - (strip s n).2) = p at *
  calc (strip s n).1 = (strip s n).1 * 1 := by omega
    _ ≤ (strip s n).1 * p := Nat.mul_le_mul_left _ this
    _ = n := h
theorem strip_pos (s n : Nat) (h : n ≠ 0) : (strip s n).1 ≠ 0 := by
  intro e
  obtain ⟨_, h2, _⟩ := strip_is s n
  rw [e] at h2; simp at h2; exact h h2.symm

def big : Nat := 9223372036854775807
/-- the decimal of a sign, a number, how many of its digits are behind the point -/
def decOf (neg : Bool) (n : Nat) (s : Int) : Option (Int × Nat) :=
  if s < 0 then none
  else if n = 0 then some (0, 0)
  else if (strip s.toNat n).1 ≤ big ∧ (strip s.toNat n).2 ≤ 18 then some (if neg then -((strip s.toNat n).1 : Int) else ((strip s.toNat n).1 : Int), (strip s.toNat n).2) else none
def goodD (m s : Int) : Bool := decide (0 ≤ s) && decide (s ≤ 18) && decide (m ≠ -9223372036854775808) && (decide (s = 0) || decide (m.tmod 10 ≠ 0))
theorem goodD_iff (m s : Int) : goodD m s = true ↔ 0 ≤ s ∧ s ≤ 18 ∧ m ≠ -9223372036854775808 ∧ (s = 0 ∨ m.tmod 10 ≠ 0) := by
  unfold goodD
  simp [and_assoc]
theorem tmod_abs (m : Int) : m.tmod 10 = 0 ↔ m.natAbs % 10 = 0 := by
  obtain ⟨n, rfl | rfl⟩ := m.eq_nat_or_neg
  · rw [show ((n : Int)).tmod 10 = ((n % 10 : Nat) : Int) from rfl, Int.natAbs_natCast]; omega
  · rw [Int.neg_tmod, show ((n : Int)).tmod 10 = ((n % 10 : Nat) : Int) from rfl, Int.natAbs_neg, Int.natAbs_natCast]; omega
theorem tdiv_abs (m : Int) : (m.tdiv 10).natAbs = m.natAbs / 10 := by
  rw [Int.natAbs_tdiv]; rfl
theorem tdiv_sign (m : Int) (h : m.tmod 10 = 0) (h0 : m ≠ 0) : m.tdiv 10 ≠ 0 ∧ (m.tdiv 10 < 0 ↔ m < 0) := by
  have e := Int.tmod_add_mul_tdiv m 10
  rw [h] at e
  omega
theorem decOf_zero (neg neg' : Bool) (s : Int) : decOf neg 0 s = decOf neg' 0 s := by unfold decOf; simp
/-- what is in its one form stays -/
theorem decOf_good (m s : Int) (hm : m.natAbs ≤ big) (h : goodD m s = true) : decOf (decide (m < 0)) m.natAbs s = some (m, s.toNat) := by
  obtain ⟨h0, h1, h2, h3⟩ := (goodD_iff m s).1 h
  unfold decOf
  rw [if_neg (by omega)]
  have hz : s = 0 ∨ m.natAbs % 10 ≠ 0 := h3.imp id (fun h e => h ((tmod_abs m).2 e))
  by_cases hm0 : m = 0
  · subst hm0
    rcases hz with rfl | hz
    · rfl
    · simp at hz
  · rw [if_neg (by omega), strip_id _ _ (hz.imp (by omega) id)]
    rw [if_pos ⟨hm, by show s.toNat ≤ 18; omega⟩]
    by_cases hn : m < 0
    · simp [hn]; omega
    · simp [hn]; omega
/-- what comes of it is in its one form, and that number -/
theorem decOf_is {neg : Bool} {n : Nat} {s : Int} {m : Int} {k : Nat} (h : decOf neg n s = some (m, k)) : goodD m k = true ∧ m.natAbs ≤ big ∧ 0 ≤ s ∧ (n = 0 → m = 0 ∧ k = 0) ∧ (n ≠ 0 → m.natAbs ≠ 0 ∧ decide (m < 0) = neg) := by
  unfold decOf at h
  split at h
  · cases h
  rename_i hs
  split at h
  · rename_i hn
    cases h
    exact ⟨by decide, by decide, by omega, fun _ => ⟨rfl, rfl⟩, fun e => absurd hn e⟩
  · rename_i hn
    split at h
    · rename_i hb
      have hp := strip_pos s.toNat n hn
      obtain ⟨_, _, h3⟩ := strip_is s.toNat n
      generalize strip s.toNat n = r at *
      simp only [Option.some.injEq, Prod.mk.injEq] at h
      obtain ⟨rfl, rfl⟩ := h
      have habs : (if neg = true then -(r.1 : Int) else (r.1 : Int)).natAbs = r.1 := by split <;> omega
      unfold big at hb
      refine ⟨(goodD_iff _ _).2 ⟨by omega, by omega, ?_, ?_⟩, by rw [habs]; exact hb.1, by omega, fun e => absurd e hn, fun _ => ⟨by rw [habs]; exact hp, ?_⟩⟩
      · split <;> omega
      · refine h3.imp (by omega) (fun h e => h ?_)
        have := (tmod_abs _).1 e
        rwa [habs] at this
      · cases neg
        · simp
        · simp; omega
    · cases h
/-- of whatever is no greater than may be there is one -/
theorem decOf_some (neg : Bool) (n : Nat) (s : Int) (hn : n ≤ big) (h0 : 0 ≤ s) (h1 : s ≤ 18) : ∃ r, decOf neg n s = some r := by
  unfold decOf
  rw [if_neg (by omega)]
  split
  · exact ⟨_, rfl⟩
  · have h2 := strip_le s.toNat n
    have h3 := (strip_is s.toNat n).1
    rw [if_pos ⟨by omega, by omega⟩]
    exact ⟨_, rfl⟩
theorem decOf_pad (neg : Bool) (n s k : Nat) : decOf neg (n * 10 ^ k) ((s + k : Nat) : Int) = decOf neg n (s : Int) := by
  unfold decOf
  have : 0 < 10 ^ k := Nat.pow_pos (by omega)
  by_cases hn : n = 0
  · subst hn
    rw [Nat.zero_mul, if_neg (show ¬ ((s + k : Nat) : Int) < 0 by omega), if_neg (show ¬ (s : Int) < 0 by omega), if_pos rfl, if_pos rfl]
  · have hne : n * 10 ^ k ≠ 0 := Nat.mul_ne_zero hn (by omega)
    rw [if_neg (show ¬ ((s + k : Nat) : Int) < 0 by omega), if_neg (show ¬ (s : Int) < 0 by omega), if_neg hne, if_neg hn, Int.toNat_natCast, Int.toNat_natCast, strip_pad]
/-- a number with its noughts off is told as the number -/
theorem decOf_strip (neg : Bool) (m : Int) (s : Nat) (n0 s0 : Nat) (h : strip s m.natAbs = strip s0 n0) (hs : m.natAbs = 0 ↔ n0 = 0) : decOf neg m.natAbs s = decOf neg n0 s0 := by
  unfold decOf
  rw [if_neg (show ¬ (s : Int) < 0 by omega), if_neg (show ¬ (s0 : Int) < 0 by omega), Int.toNat_natCast, Int.toNat_natCast, h]
  by_cases hn : n0 = 0
  · rw [if_pos (hs.2 hn), if_pos hn]
  · rw [if_neg (fun e => hn (hs.1 e)), if_neg hn]

end Go.Proofs.YtmbpldnclnahmaaDoor.Dc
