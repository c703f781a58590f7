/- The texts DecPlain, DecPlainB, DecPlainC, SumPlain, StampPlain, RefDecPlain, one behind the other. -/

/- Plain mathematics: decimals: numbers by their digits, noughts taken off, texts taken apart. No program. -/
set_option linter.unusedVariables false
set_option linter.unusedSimpArgs false
namespace Go.Proofs.YtkmcjmpdmgdcoaaGreatDoor.Dc

/-! ### a number by its digits -/
def valN (l : List Nat) : Nat := l.foldl (fun n d => 10 * n + d) 0
theorem foldN (l : List Nat) : ∀ a, l.foldl (fun n d => 10 * n + d) a = a * 10 ^ l.length + valN l := by
  induction l with
  | nil => intro a; simp [valN]
  | cons d l ih =>
    intro a
    have h1 := ih (10 * a + d)
    have h2 := ih (10 * 0 + d)
    unfold valN at *
    simp only [List.foldl_cons, List.length_cons, Nat.pow_succ] at *
    rw [h1, h2]
    simp only [Nat.mul_zero, Nat.zero_add, Nat.add_mul]
    rw [Nat.add_assoc]
    congr 1
    rw [Nat.mul_comm 10 a, Nat.mul_assoc, Nat.mul_comm 10]
theorem valN_nil : valN [] = 0 := rfl
theorem valN_app (a b : List Nat) : valN (a ++ b) = valN a * 10 ^ b.length + valN b := by
  show (a ++ b).foldl _ 0 = _
  rw [List.foldl_append, foldN b]; rfl
theorem valN_cons (d : Nat) (l : List Nat) : valN (d :: l) = d * 10 ^ l.length + valN l := by
  have := valN_app [d] l
  simpa [valN] using this
theorem valN_snoc (l : List Nat) (d : Nat) : valN (l ++ [d]) = 10 * valN l + d := by
  rw [valN_app]; simp [valN]; omega
theorem valN_lt (l : List Nat) (h : ∀ d ∈ l, d ≤ 9) : valN l < 10 ^ l.length := by
  induction l with
  | nil => simp [valN]
  | cons d l ih =>
    rw [valN_cons, List.length_cons, Nat.pow_succ]
    have h1 := ih (fun x hx => h x (by simp [hx]))
    have h2 := h d (by simp)
    have h3 : d * 10 ^ l.length ≤ 9 * 10 ^ l.length := Nat.mul_le_mul_right _ h2
    omega
theorem valN_ge (d : Nat) (l : List Nat) (h : d ≠ 0) : 10 ^ l.length ≤ valN (d :: l) := by
  rw [valN_cons]
  have : 1 * 10 ^ l.length ≤ d * 10 ^ l.length := Nat.mul_le_mul_right _ (by omega)
  omega
theorem valN_zeros (n : Nat) (l : List Nat) : valN (List.replicate n 0 ++ l) = valN l := by
  induction n with
  | zero => simp
  | succ n ih => rw [List.replicate_succ, List.cons_append, valN_cons, ih]; simp
theorem valN_pad (l : List Nat) (n : Nat) : valN (l ++ List.replicate n 0) = valN l * 10 ^ n := by
  rw [valN_app]
  have := valN_zeros n []
  simp [valN] at this
  simp [valN, this]

/-- the digits of a number, the first one first; those of 0: none -/
def digs (n : Nat) : List Nat := if h : n = 0 then [] else digs (n / 10) ++ [n % 10]
termination_by n
decreasing_by omega
theorem digs_zero : digs 0 = [] := by unfold digs; simp
theorem digs_pos {n : Nat} (h : n ≠ 0) : digs n = digs (n / 10) ++ [n % 10] := by rw [digs]; simp [h]
theorem digs_le (n : Nat) : ∀ d ∈ digs n, d ≤ 9 := by
  induction n using Nat.strongRecOn with
  | ind n ih =>
    by_cases h : n = 0
    · subst h; rw [digs_zero]; simp
    · rw [digs_pos h]
      intro d hd
      rcases List.mem_append.1 hd with hd | hd
      · exact ih (n / 10) (by omega) d hd
      · obtain rfl : d = n % 10 := by simpa using hd
        omega
theorem digs_val (n : Nat) : valN (digs n) = n := by
  induction n using Nat.strongRecOn with
  | ind n ih =>
    by_cases h : n = 0
    · subst h; rw [digs_zero]; rfl
    · rw [digs_pos h, valN_snoc, ih (n / 10) (by omega)]; omega
theorem digs_head (n : Nat) : ∀ d l, digs n = d :: l → d ≠ 0 := by
  induction n using Nat.strongRecOn with
  | ind n ih =>
    by_cases h : n = 0
    · subst h; rw [digs_zero]; intro d l e; cases e
    · rw [digs_pos h]
      intro d l e
      by_cases h0 : n / 10 = 0
      · rw [h0, digs_zero] at e
        simp at e
        omega
      · cases hd : digs (n / 10) with
        | nil => have := digs_val (n / 10); rw [hd, valN_nil] at this; omega
        | cons x xs =>
          rw [hd] at e
          simp at e
          rw [← e.1]
          exact ih (n / 10) (by omega) x xs hd
theorem digs_len_le {n k : Nat} (h : n < 10 ^ k) : (digs n).length ≤ k := by
  induction k generalizing n with
  | zero => obtain rfl : n = 0 := by simpa using h
            rw [digs_zero]; simp
  | succ k ih =>
    by_cases h0 : n = 0
    · subst h0; rw [digs_zero]; simp
    · rw [digs_pos h0, List.length_append]
      have := ih (n := n / 10) (by rw [Nat.pow_succ] at h; omega)
      simp; omega
theorem digs_lt (n : Nat) : n < 10 ^ (digs n).length := by
  have := valN_lt (digs n) (digs_le n)
  rwa [digs_val] at this
theorem digs_ne {n : Nat} (h : n ≠ 0) : digs n ≠ [] := by
  intro e; have := digs_val n; rw [e, valN_nil] at this; exact h this.symm

/-- a row of digits without a nought ahead is its number's -/
theorem digs_of_head (l : List Nat) (h9 : ∀ d ∈ l, d ≤ 9) (hh : ∀ d r, l = d :: r → d ≠ 0) : digs (valN l) = l := by
  induction hn : l.length generalizing l with
  | zero => obtain rfl := List.eq_nil_of_length_eq_zero hn
            exact digs_zero
  | succ n ih =>
    have hne : l ≠ [] := by intro e; subst e; simp at hn
    obtain ⟨i, d, rfl⟩ : ∃ i d, l = i ++ [d] := ⟨l.dropLast, l.getLast hne, (List.dropLast_concat_getLast hne).symm⟩
    have hd : d ≤ 9 := h9 d (by simp)
    rw [valN_snoc]
    by_cases hi : i = []
    · subst hi
      have : d ≠ 0 := hh d [] rfl
      rw [valN_nil, digs_pos (by omega), show (10 * 0 + d) / 10 = 0 by omega, show (10 * 0 + d) % 10 = d by omega, digs_zero]
    · have hi2 := ih i (fun x hx => h9 x (by simp [hx])) (fun x r e => hh x (r ++ [d]) (by rw [e]; rfl)) (by simp at hn; omega)
      have hz : valN i ≠ 0 := by
        intro e; rw [e, digs_zero] at hi2; exact hi hi2.symm
      rw [digs_pos (by omega), show (10 * valN i + d) / 10 = valN i by omega, show (10 * valN i + d) % 10 = d by omega, hi2]

/-- noughts ahead taken off -/
def trimN : List Nat → List Nat
  | 0 :: l => trimN l
  | l => l
theorem trimN_zero (l : List Nat) : trimN (0 :: l) = trimN l := rfl
theorem trimN_pos (d : Nat) (l : List Nat) (h : d ≠ 0) : trimN (d :: l) = d :: l := by cases d with | zero => exact absurd rfl h | succ d => rfl
theorem trimN_val (l : List Nat) : valN (trimN l) = valN l := by
  induction l with
  | nil => rfl
  | cons d l ih =>
    by_cases h : d = 0
    · subst h; rw [trimN_zero, ih, valN_cons]; simp
    · rw [trimN_pos d l h]
theorem trimN_head (l : List Nat) : ∀ d r, trimN l = d :: r → d ≠ 0 := by
  induction l with
  | nil => intro d r e; cases e
  | cons x l ih =>
    intro d r e
    by_cases h : x = 0
    · subst h; rw [trimN_zero] at e; exact ih d r e
    · rw [trimN_pos x l h] at e; cases e; exact h
theorem trimN_sub (l : List Nat) : ∀ d ∈ trimN l, d ∈ l := by
  induction l with
  | nil => intro d h; exact h
  | cons x l ih =>
    intro d hd
    by_cases h : x = 0
    · subst h; rw [trimN_zero] at hd; exact List.mem_cons_of_mem _ (ih d hd)
    · rwa [trimN_pos x l h] at hd
theorem trimN_len (l : List Nat) : (trimN l).length ≤ l.length := by
  induction l with
  | nil => exact Nat.le_refl _
  | cons x l ih =>
    by_cases h : x = 0
    · subst h; rw [trimN_zero]; simp; omega
    · rw [trimN_pos x l h]; exact Nat.le_refl _
theorem trimN_digs (l : List Nat) (h : ∀ d ∈ l, d ≤ 9) : trimN l = digs (valN l) := by
  rw [← trimN_val l]
  exact (digs_of_head _ (fun d hd => h d (trimN_sub l d hd)) (trimN_head l)).symm

/-! ### which of two is greater, digit by digit -/
/-- of two rows of as many digits -/
def lexN : List Nat → List Nat → Int
  | a :: l, b :: r => if a < b then -1 else if b < a then 1 else lexN l r
  | _, _ => 0
def cmpN (l r : List Nat) : Int := if l.length ≠ r.length then (if l.length < r.length then -1 else 1) else lexN l r
theorem lexN_val : ∀ (l r : List Nat), l.length = r.length → (∀ d ∈ l, d ≤ 9) → (∀ d ∈ r, d ≤ 9) → lexN l r = (if valN l < valN r then -1 else if valN r < valN l then 1 else 0)
  | [], [], _, _, _ => rfl
  | [], _ :: _, h, _, _ => by simp at h
  | _ :: _, [], h, _, _ => by simp at h
  | a :: l, b :: r, h, ha, hb => by
    have hl : l.length = r.length := by simpa using h
    have la := valN_lt l (fun d hd => ha d (by simp [hd]))
    have lb := valN_lt r (fun d hd => hb d (by simp [hd]))
    have ih := lexN_val l r hl (fun d hd => ha d (by simp [hd])) (fun d hd => hb d (by simp [hd]))
    rw [valN_cons, valN_cons, lexN, hl]
    rw [hl] at la
    generalize 10 ^ r.length = p at *
    by_cases h1 : a < b
    · rw [if_pos h1]
      have : (a + 1) * p ≤ b * p := Nat.mul_le_mul_right _ h1
      rw [Nat.add_mul] at this
      rw [if_pos (by omega)]
    · rw [if_neg h1]
      by_cases h2 : b < a
      · rw [if_pos h2]
        have : (b + 1) * p ≤ a * p := Nat.mul_le_mul_right _ h2
        rw [Nat.add_mul] at this
        rw [if_neg (by omega), if_pos (by omega)]
      · rw [if_neg h2, ih]
        obtain rfl : a = b := by omega
        by_cases h3 : valN l < valN r
        · rw [if_pos h3, if_pos (show a * p + valN l < a * p + valN r by omega)]
        · rw [if_neg h3, if_neg (show ¬ a * p + valN l < a * p + valN r by omega)]
          by_cases h4 : valN r < valN l
          · rw [if_pos h4, if_pos (show a * p + valN r < a * p + valN l by omega)]
          · rw [if_neg h4, if_neg (show ¬ a * p + valN r < a * p + valN l by omega)]
theorem cmpN_val (l r : List Nat) (ha : ∀ d ∈ l, d ≤ 9) (hb : ∀ d ∈ r, d ≤ 9) (h1 : ∀ d t, l = d :: t → d ≠ 0) (h2 : ∀ d t, r = d :: t → d ≠ 0) :
    cmpN l r = (if valN l < valN r then -1 else if valN r < valN l then 1 else 0) := by
  unfold cmpN
  by_cases h : l.length = r.length
  · rw [if_neg (by simpa using h), lexN_val l r h ha hb]
  · rw [if_pos h]
    by_cases h3 : l.length < r.length
    · rw [if_pos h3]
      have := valN_lt l ha
      cases r with
      | nil => simp at h3
      | cons d t =>
        have h4 := valN_ge d t (h2 d t rfl)
        have h5 : 10 ^ l.length ≤ 10 ^ t.length := Nat.pow_le_pow_right (by omega) (by simp at h3; omega)
        rw [if_pos (by omega)]
    · rw [if_neg h3]
      have := valN_lt r hb
      cases l with
      | nil => simp at h h3; exact absurd (by rw [h3]; rfl) h
      | cons d t =>
        have h4 := valN_ge d t (h1 d t rfl)
        have h5 : 10 ^ r.length ≤ 10 ^ t.length := Nat.pow_le_pow_right (by omega) (by simp at h h3; omega)
        rw [if_neg (by omega), if_pos (by omega)]

/-! ### noughts behind the point taken off -/
/-- of a number with s digits behind the point: as few as need be -/
def strip : Nat → Nat → Nat × Nat
  | 0, n => (n, 0)
  | s + 1, n => if n % 10 = 0 then strip s (n / 10) else (n, s + 1)
theorem strip_id (s n : Nat) (h : s = 0 ∨ n % 10 ≠ 0) : strip s n = (n, s) := by
  cases s with
  | zero => rfl
  | succ s => rw [strip, if_neg (by omega)]
theorem strip_step (s n : Nat) (h : n % 10 = 0) : strip (s + 1) n = strip s (n / 10) := by rw [strip, if_pos h]
theorem strip_pad (s n k : Nat) : strip (s + k) (n * 10 ^ k) = strip s n := by
  induction k with
  | zero => simp
  | succ k ih => rw [← Nat.add_assoc, Nat.pow_succ, ← Nat.mul_assoc, strip_step _ _ (by omega), Nat.mul_div_cancel _ (by omega), ih]
theorem strip_is (s n : Nat) : (strip s n).2 ≤ s ∧ (strip s n).1 * 10 ^ (s - (strip s n).2) = n ∧ ((strip s n).2 = 0 ∨ (strip s n).1 % 10 ≠ 0) := by
  induction s generalizing n with
  | zero => simp [strip]
  | succ s ih =>
    rw [strip]
    split
    · rename_i h
      obtain ⟨a, b, c⟩ := ih (n / 10)
      refine ⟨by omega, ?_, c⟩
      rw [show s + 1 - (strip s (n / 10)).2 = s - (strip s (n / 10)).2 + 1 by omega, Nat.pow_succ, ← Nat.mul_assoc, b]
      omega
    · rename_i h
      exact ⟨Nat.le_refl _, by simp, Or.inr h⟩
theorem strip_le (s n : Nat) : (strip s n).1 ≤ n := by
  obtain ⟨_, h, _⟩ := strip_is s n
  have : 0 < 10 ^ (s - (strip s n).2) := Nat.pow_pos (by omega)
  generalize 10 ^ (s - (strip s n).2) = p at *
  calc (strip s n).1 = (strip s n).1 * 1 := by omega
    _ ≤ (strip s n).1 * p := Nat.mul_le_mul_left _ this
    _ = n := h
theorem strip_pos (s n : Nat) (h : n ≠ 0) : (strip s n).1 ≠ 0 := by
  intro e
  obtain ⟨_, h2, _⟩ := strip_is s n
  rw [e] at h2; simp at h2; exact h h2.symm

def big : Nat := 9223372036854775807
/-- the decimal of a sign, a number, how many of its digits are behind the point -/
def decOf (neg : Bool) (n : Nat) (s : Int) : Option (Int × Nat) :=
  if s < 0 then none
  else if n = 0 then some (0, 0)
  else if (strip s.toNat n).1 ≤ big ∧ (strip s.toNat n).2 ≤ 18 then some (if neg then -((strip s.toNat n).1 : Int) else ((strip s.toNat n).1 : Int), (strip s.toNat n).2) else none
def goodD (m s : Int) : Bool := decide (0 ≤ s) && decide (s ≤ 18) && decide (m ≠ -9223372036854775808) && (decide (s = 0) || decide (m.tmod 10 ≠ 0))
theorem goodD_iff (m s : Int) : goodD m s = true ↔ 0 ≤ s ∧ s ≤ 18 ∧ m ≠ -9223372036854775808 ∧ (s = 0 ∨ m.tmod 10 ≠ 0) := by
  unfold goodD
  simp [and_assoc]
theorem tmod_abs (m : Int) : m.tmod 10 = 0 ↔ m.natAbs % 10 = 0 := by
  obtain ⟨n, rfl | rfl⟩ := m.eq_nat_or_neg
  · rw [show ((n : Int)).tmod 10 = ((n % 10 : Nat) : Int) from rfl, Int.natAbs_natCast]; omega
  · rw [Int.neg_tmod, show ((n : Int)).tmod 10 = ((n % 10 : Nat) : Int) from rfl, Int.natAbs_neg, Int.natAbs_natCast]; omega
theorem tdiv_abs (m : Int) : (m.tdiv 10).natAbs = m.natAbs / 10 := by
  rw [Int.natAbs_tdiv]; rfl
theorem tdiv_sign (m : Int) (h : m.tmod 10 = 0) (h0 : m ≠ 0) : m.tdiv 10 ≠ 0 ∧ (m.tdiv 10 < 0 ↔ m < 0) := by
  have e := Int.tmod_add_mul_tdiv m 10
  rw [h] at e
  omega
theorem decOf_zero (neg neg' : Bool) (s : Int) : decOf neg 0 s = decOf neg' 0 s := by unfold decOf; simp
/-- what is in its one form stays -/
theorem decOf_good (m s : Int) (hm : m.natAbs ≤ big) (h : goodD m s = true) : decOf (decide (m < 0)) m.natAbs s = some (m, s.toNat) := by
  obtain ⟨h0, h1, h2, h3⟩ := (goodD_iff m s).1 h
  unfold decOf
  rw [if_neg (by omega)]
  have hz : s = 0 ∨ m.natAbs % 10 ≠ 0 := h3.imp id (fun h e => h ((tmod_abs m).2 e))
  by_cases hm0 : m = 0
  · subst hm0
    rcases hz with rfl | hz
    · rfl
    · simp at hz
  · rw [if_neg (by omega), strip_id _ _ (hz.imp (by omega) id)]
    rw [if_pos ⟨hm, by show s.toNat ≤ 18; omega⟩]
    by_cases hn : m < 0
    · simp [hn]; omega
    · simp [hn]; omega
/-- what comes of it is in its one form, and that number -/
theorem decOf_is {neg : Bool} {n : Nat} {s : Int} {m : Int} {k : Nat} (h : decOf neg n s = some (m, k)) : goodD m k = true ∧ m.natAbs ≤ big ∧ 0 ≤ s ∧ (n = 0 → m = 0 ∧ k = 0) ∧ (n ≠ 0 → m.natAbs ≠ 0 ∧ decide (m < 0) = neg) := by
  unfold decOf at h
  split at h
  · cases h
  rename_i hs
  split at h
  · rename_i hn
    cases h
    exact ⟨by decide, by decide, by omega, fun _ => ⟨rfl, rfl⟩, fun e => absurd hn e⟩
  · rename_i hn
    split at h
    · rename_i hb
      have hp := strip_pos s.toNat n hn
      obtain ⟨_, _, h3⟩ := strip_is s.toNat n
      generalize strip s.toNat n = r at *
      simp only [Option.some.injEq, Prod.mk.injEq] at h
      obtain ⟨rfl, rfl⟩ := h
      have habs : (if neg = true then -(r.1 : Int) else (r.1 : Int)).natAbs = r.1 := by split <;> omega
      unfold big at hb
      refine ⟨(goodD_iff _ _).2 ⟨by omega, by omega, ?_, ?_⟩, by rw [habs]; exact hb.1, by omega, fun e => absurd e hn, fun _ => ⟨by rw [habs]; exact hp, ?_⟩⟩
      · split <;> omega
      · refine h3.imp (by omega) (fun h e => h ?_)
        have := (tmod_abs _).1 e
        rwa [habs] at this
      · cases neg
        · simp
        · simp; omega
    · cases h
/-- of whatever is no greater than may be there is one -/
theorem decOf_some (neg : Bool) (n : Nat) (s : Int) (hn : n ≤ big) (h0 : 0 ≤ s) (h1 : s ≤ 18) : ∃ r, decOf neg n s = some r := by
  unfold decOf
  rw [if_neg (by omega)]
  split
  · exact ⟨_, rfl⟩
  · have h2 := strip_le s.toNat n
    have h3 := (strip_is s.toNat n).1
    rw [if_pos ⟨by omega, by omega⟩]
    exact ⟨_, rfl⟩
theorem decOf_pad (neg : Bool) (n s k : Nat) : decOf neg (n * 10 ^ k) ((s + k : Nat) : Int) = decOf neg n (s : Int) := by
  unfold decOf
  have : 0 < 10 ^ k := Nat.pow_pos (by omega)
  by_cases hn : n = 0
  · subst hn
    rw [Nat.zero_mul, if_neg (show ¬ ((s + k : Nat) : Int) < 0 by omega), if_neg (show ¬ (s : Int) < 0 by omega), if_pos rfl, if_pos rfl]
  · have hne : n * 10 ^ k ≠ 0 := Nat.mul_ne_zero hn (by omega)
    rw [if_neg (show ¬ ((s + k : Nat) : Int) < 0 by omega), if_neg (show ¬ (s : Int) < 0 by omega), if_neg hne, if_neg hn, Int.toNat_natCast, Int.toNat_natCast, strip_pad]
/-- a number with its noughts off is told as the number -/
theorem decOf_strip (neg : Bool) (m : Int) (s : Nat) (n0 s0 : Nat) (h : strip s m.natAbs = strip s0 n0) (hs : m.natAbs = 0 ↔ n0 = 0) : decOf neg m.natAbs s = decOf neg n0 s0 := by
  unfold decOf
  rw [if_neg (show ¬ (s : Int) < 0 by omega), if_neg (show ¬ (s0 : Int) < 0 by omega), Int.toNat_natCast, Int.toNat_natCast, h]
  by_cases hn : n0 = 0
  · rw [if_pos (hs.2 hn), if_pos hn]
  · rw [if_neg (fun e => hn (hs.1 e)), if_neg hn]

end Go.Proofs.YtkmcjmpdmgdcoaaGreatDoor.Dc

/- Plain mathematics: the texts of decimals, taken apart and put together. No program. -/
set_option linter.unusedVariables false
set_option linter.unusedSimpArgs false
namespace Go.Proofs.YtkmcjmpdmgdcoaaGreatDoor.Dc

def dg (c : UInt8) : Bool := decide (48 ≤ c.toNat) && decide (c.toNat ≤ 57)
def dv (c : UInt8) : Nat := c.toNat - 48
def vals (l : List UInt8) : List Nat := l.map dv
theorem dg_iff (c : UInt8) : dg c = true ↔ 48 ≤ c.toNat ∧ c.toNat ≤ 57 := by unfold dg; simp
def allDg (l : List UInt8) : Prop := ∀ c ∈ l, dg c = true
theorem allDg_app {a b : List UInt8} (ha : allDg a) (hb : allDg b) : allDg (a ++ b) := fun c hc => by
  rcases List.mem_append.1 hc with h | h
  · exact ha c h
  · exact hb c h
theorem vals_le {l : List UInt8} (h : allDg l) : ∀ d ∈ vals l, d ≤ 9 := fun d hd => by
  obtain ⟨c, hc, rfl⟩ := List.mem_map.1 hd
  have := (dg_iff c).1 (h c hc)
  unfold dv; omega
theorem vals_app (a b : List UInt8) : vals (a ++ b) = vals a ++ vals b := List.map_append
theorem vals_len (a : List UInt8) : (vals a).length = a.length := List.length_map _

/-- how many digits a text begins with -/
def dgN (l : List UInt8) : Nat := (l.takeWhile dg).length
theorem dgN_le (l : List UInt8) : dgN l ≤ l.length := by
  unfold dgN
  induction l with
  | nil => simp
  | cons c l ih => rw [List.takeWhile_cons]; split <;> simp; omega
theorem dgN_cons (c : UInt8) (l : List UInt8) : dgN (c :: l) = if dg c = true then dgN l + 1 else 0 := by
  unfold dgN
  rw [List.takeWhile_cons]
  split <;> rfl
theorem dgN_take (l : List UInt8) : l.take (dgN l) = l.takeWhile dg := by
  induction l with
  | nil => rfl
  | cons c l ih =>
    rw [dgN_cons, List.takeWhile_cons]
    split
    · rw [List.take_succ_cons, ih]
    · rfl
theorem dgN_drop (l : List UInt8) : l.drop (dgN l) = l.dropWhile dg := by
  induction l with
  | nil => rfl
  | cons c l ih =>
    rw [dgN_cons, List.dropWhile_cons]
    split
    · rw [List.drop_succ_cons, ih]
    · rfl
theorem takeWhile_dg (l : List UInt8) : allDg (l.takeWhile dg) := by
  induction l with
  | nil => intro c hc; cases hc
  | cons x l ih =>
    intro c hc
    rw [List.takeWhile_cons] at hc
    split at hc
    · rename_i h
      rcases List.mem_cons.1 hc with rfl | hc
      · exact h
      · exact ih c hc
    · cases hc
theorem takeWhile_app {a : List UInt8} (h : allDg a) (b : List UInt8) : (a ++ b).takeWhile dg = a ++ b.takeWhile dg := by
  induction a with
  | nil => rfl
  | cons x a ih => rw [List.cons_append, List.takeWhile_cons, if_pos (h x (by simp)), ih (fun c hc => h c (by simp [hc]))]; rfl
theorem dropWhile_app {a : List UInt8} (h : allDg a) (b : List UInt8) : (a ++ b).dropWhile dg = b.dropWhile dg := by
  induction a with
  | nil => rfl
  | cons x a ih => rw [List.cons_append, List.dropWhile_cons, if_pos (h x (by simp)), ih (fun c hc => h c (by simp [hc]))]
theorem dropWhile_head (l : List UInt8) : ∀ c r, l.dropWhile dg = c :: r → dg c = false := by
  induction l with
  | nil => intro c r e; cases e
  | cons x l ih =>
    intro c r e
    rw [List.dropWhile_cons] at e
    split at e
    · exact ih c r e
    · rename_i h
      cases e
      simpa using h
theorem split_at (l : List UInt8) : l = l.takeWhile dg ++ l.dropWhile dg := (List.takeWhile_append_dropWhile).symm

/-! ### a text taken apart -/
/-- how many bytes of sign -/
def sg (l : List UInt8) : Nat := match l with | 45 :: _ => 1 | _ => 0
theorem sg_cases (l : List UInt8) : (∃ r, l = 45 :: r ∧ sg l = 1) ∨ (sg l = 0 ∧ ∀ r, l ≠ 45 :: r) := by
  by_cases h : ∃ r, l = 45 :: r
  · obtain ⟨r, rfl⟩ := h; exact Or.inl ⟨r, rfl, rfl⟩
  · refine Or.inr ⟨?_, fun r e => h ⟨r, e⟩⟩
    unfold sg
    split
    · rename_i r; exact absurd ⟨r, rfl⟩ h
    · rfl
theorem sg_le (l : List UInt8) : sg l ≤ l.length := by
  rcases sg_cases l with ⟨r, rfl, h⟩ | ⟨h, _⟩ <;> rw [h] <;> simp
/-- where the digits ahead of the point end; where those behind it end -/
def pt (l : List UInt8) : Nat := sg l + dgN (l.drop (sg l))
def en (l : List UInt8) : Nat := pt l + 1 + dgN (l.drop (pt l + 1))
/-- what a text is: none, and how far it may be one; or its sign, its digits ahead of and behind the point -/
inductive Cut where
  | bad (n : Nat)
  | ok (neg : Bool) (d e : List UInt8)
def cut (l : List UInt8) : Cut :=
  if pt l = sg l then .bad (pt l)
  else if pt l = l.length then .ok (decide (sg l = 1)) ((l.drop (sg l)).takeWhile dg) []
  else if l[pt l]? ≠ some 46 then .bad (pt l)
  else if en l = pt l + 1 ∨ en l < l.length then .bad (en l)
  else .ok (decide (sg l = 1)) ((l.drop (sg l)).takeWhile dg) ((l.drop (pt l + 1)).takeWhile dg)
theorem pt_le (l : List UInt8) : pt l ≤ l.length := by
  unfold pt
  have := dgN_le (l.drop (sg l))
  have := sg_le l
  rw [List.length_drop] at *
  omega
theorem en_le (l : List UInt8) (h : pt l < l.length) : en l ≤ l.length := by
  unfold en
  have := dgN_le (l.drop (pt l + 1))
  rw [List.length_drop] at *
  omega
theorem cut_bad_le {l : List UInt8} {n : Nat} (h : cut l = .bad n) : n ≤ l.length := by
  have h1 := pt_le l
  unfold cut at h
  split at h
  · cases h; exact h1
  split at h
  · cases h
  split at h
  · cases h; exact h1
  split at h
  · cases h; exact en_le l (by omega)
  · cases h
theorem cut_ok {l : List UInt8} {neg : Bool} {d e : List UInt8} (h : cut l = .ok neg d e) : allDg d ∧ allDg e ∧ d ≠ [] := by
  have hd := takeWhile_dg (l.drop (sg l))
  have hne : pt l ≠ sg l → (l.drop (sg l)).takeWhile dg ≠ [] := fun hp e => hp (by unfold pt dgN; rw [e]; rfl)
  unfold cut at h
  split at h
  · cases h
  rename_i h0
  split at h
  · cases h; exact ⟨hd, (fun c (hc : c ∈ ([] : List UInt8)) => absurd hc List.not_mem_nil), hne h0⟩
  split at h
  · cases h
  split at h
  · cases h
  · cases h; exact ⟨hd, takeWhile_dg _, hne h0⟩
/-- the sign's bytes -/
def sgn (neg : Bool) : List UInt8 := if neg then [45] else []
def dot (e : List UInt8) : List UInt8 := if e = [] then [] else 46 :: e
theorem sg_sgn (neg : Bool) (d r : List UInt8) (hd : allDg d) (hne : d ≠ []) : sg (sgn neg ++ d ++ r) = (sgn neg).length := by
  cases neg with
  | true => rfl
  | false =>
    cases d with
    | nil => exact absurd rfl hne
    | cons c d =>
      have := (dg_iff c).1 (hd c (by simp))
      show sg (c :: (d ++ r)) = 0
      unfold sg
      split
      · rename_i e; cases e; simp at this
      · rfl
/-- a text put together is taken apart again -/
theorem cut_text (neg : Bool) (d e : List UInt8) (hd : allDg d) (hne : d ≠ []) (he : allDg e) : cut (sgn neg ++ d ++ dot e) = .ok neg d e := by
  have h1 := sg_sgn neg d (dot e) hd hne
  have hs : decide ((sgn neg).length = 1) = neg := by cases neg <;> rfl
  have hdrop : (sgn neg ++ d ++ dot e).drop (sgn neg).length = d ++ dot e := by rw [List.append_assoc, List.drop_left]
  have htw : (dot e).takeWhile dg = [] := by unfold dot; split <;> rfl
  have ht : (d ++ dot e).takeWhile dg = d := by rw [takeWhile_app hd, htw, List.append_nil]
  have hp : pt (sgn neg ++ d ++ dot e) = (sgn neg ++ d).length := by
    unfold pt dgN
    rw [h1, hdrop, ht, List.length_append]
  have hdl : d.length ≠ 0 := by simpa using hne
  unfold cut
  rw [hp, h1, hdrop, ht, hs, if_neg (by rw [List.length_append]; omega)]
  by_cases h : e = []
  · subst h
    rw [if_pos (by simp [dot])]
  · have hde : dot e = 46 :: e := by unfold dot; rw [if_neg h]
    have hen : en (sgn neg ++ d ++ dot e) = (sgn neg ++ d ++ dot e).length := by
      unfold en dgN
      rw [hp, hde]
      have : (sgn neg ++ d ++ 46 :: e).drop ((sgn neg ++ d).length + 1) = e := by
        rw [show sgn neg ++ d ++ 46 :: e = (sgn neg ++ d ++ [46]) ++ e by simp]
        rw [show (sgn neg ++ d).length + 1 = (sgn neg ++ d ++ [46]).length by simp; omega]
        exact List.drop_left
      rw [this]
      have h2 := takeWhile_app he []
      rw [List.append_nil, List.takeWhile_nil, List.append_nil] at h2
      rw [h2]
      simp; omega
    have hat : (sgn neg ++ d ++ dot e)[(sgn neg ++ d).length]? = some 46 := by rw [hde]; simp
    have hel : e.length ≠ 0 := by simpa using h
    have hlen : (sgn neg ++ d ++ dot e).length = (sgn neg ++ d).length + 1 + e.length := by rw [hde]; simp; omega
    rw [if_neg (by omega), if_neg (by rw [hat]; simp), hen, if_neg (by omega), hde]
    have : (sgn neg ++ d ++ 46 :: e).drop ((sgn neg ++ d).length + 1) = e := by
      rw [show sgn neg ++ d ++ 46 :: e = (sgn neg ++ d ++ [46]) ++ e by simp]
      rw [show (sgn neg ++ d).length + 1 = (sgn neg ++ d ++ [46]).length by simp; omega]
      exact List.drop_left
    rw [this]
    have h2 := takeWhile_app he []
    rw [List.append_nil, List.takeWhile_nil, List.append_nil] at h2
    rw [h2]

/-- a text read: the decimal, or why and where there is none -/
def parse (l : List UInt8) : (Int × Int) × Int × Int :=
  match cut l with
  | .bad n => ((0, 0), 11, n)
  | .ok neg d e => match decOf neg (valN (vals (d ++ e))) e.length with
    | none => ((0, 0), 12, 0)
    | some (m, k) => ((m, k), 0, 0)
theorem parse_bad {l : List UInt8} {n : Nat} (h : cut l = .bad n) : parse l = ((0, 0), 11, (n : Int)) := by unfold parse; rw [h]
theorem parse_ok {l : List UInt8} {neg : Bool} {d e : List UInt8} (h : cut l = .ok neg d e) :
    parse l = match decOf neg (valN (vals (d ++ e))) e.length with | none => ((0, 0), 12, 0) | some (m, k) => ((m, (k : Int)), 0, 0) := by unfold parse; rw [h]

/-! ### where a text can't go on -/
theorem take_sg (l : List UInt8) : l.take (sg l) = sgn (decide (sg l = 1)) := by
  rcases sg_cases l with ⟨r, rfl, h⟩ | ⟨h, _⟩
  · rw [h]; rfl
  · rw [h]; rfl
theorem take_pt (l : List UInt8) : l.take (pt l) = sgn (decide (sg l = 1)) ++ (l.drop (sg l)).takeWhile dg := by
  unfold pt
  rw [List.take_add, take_sg, dgN_take]
theorem take_en (l : List UInt8) (h : l[pt l]? = some 46) : l.take (en l) = sgn (decide (sg l = 1)) ++ (l.drop (sg l)).takeWhile dg ++ 46 :: (l.drop (pt l + 1)).takeWhile dg := by
  unfold en
  rw [List.take_add, List.take_add, take_pt, dgN_take]
  have hlt : pt l < l.length := by
    rcases Nat.lt_or_ge (pt l) l.length with h' | h'
    · exact h'
    · rw [List.getElem?_eq_none h'] at h; cases h
  rw [List.drop_eq_getElem_cons hlt, List.take_succ_cons, List.take_zero]
  rw [List.getElem?_eq_getElem hlt] at h
  rw [Option.some.inj h]; simp
theorem cut_of_bad {l : List UInt8} {n : Nat} (h : cut l = .bad n) : (∃ neg d e, cut (l.take n) = .ok neg d e) ∨ (∃ neg d e, cut (l.take n ++ [48]) = .ok neg d e) := by
  have h48 : allDg [48] := by intro c hc; obtain rfl : c = 48 := by simpa using hc
                              rfl
  have hnil : allDg [] := fun c hc => absurd hc List.not_mem_nil
  have hd := takeWhile_dg (l.drop (sg l))
  have hne : pt l ≠ sg l → (l.drop (sg l)).takeWhile dg ≠ [] := fun hp e => hp (by unfold pt dgN; rw [e]; rfl)
  unfold cut at h
  split at h
  · rename_i h0
    cases h
    rw [h0, take_sg]
    have := cut_text (decide (sg l = 1)) [48] [] h48 (by simp) hnil
    simp only [dot, if_pos, List.append_nil] at this
    exact Or.inr ⟨_, _, _, this⟩
  rename_i h0
  split at h
  · cases h
  split at h
  · cases h
    rw [take_pt]
    have := cut_text (decide (sg l = 1)) _ [] hd (hne h0) hnil
    simp only [dot, if_pos, List.append_nil] at this
    exact Or.inl ⟨_, _, _, this⟩
  rename_i h46
  split at h
  · cases h
    have h46 : l[pt l]? = some 46 := by simpa using h46
    rw [take_en l h46]
    have he := takeWhile_dg (l.drop (pt l + 1))
    generalize (l.drop (pt l + 1)).takeWhile dg = e at *
    by_cases hz : e = []
    · subst hz
      have := cut_text (decide (sg l = 1)) _ [48] hd (hne h0) h48
      simp only [dot] at this
      rw [if_neg (by simp)] at this
      exact Or.inr ⟨decide (sg l = 1), (l.drop (sg l)).takeWhile dg, [48], by rw [List.append_assoc]; exact this⟩
    · have := cut_text (decide (sg l = 1)) _ e hd (hne h0) he
      unfold dot at this
      rw [if_neg hz] at this
      exact Or.inl ⟨_, _, _, this⟩
  · cases h
theorem dgN_front (l e : List UInt8) (k : Nat) (hk : k < l.length) (hr : dgN l ≤ k) : dgN (l.take (k + 1) ++ e) = dgN l := by
  induction l generalizing k with
  | nil => simp at hk
  | cons c l ih =>
    rw [List.take_succ_cons, List.cons_append, dgN_cons, dgN_cons]
    rw [dgN_cons] at hr
    split
    · rename_i h
      rw [if_pos h] at hr
      obtain ⟨j, rfl⟩ : ∃ j, k = j + 1 := ⟨k - 1, by omega⟩
      rw [ih j (by simpa using hk) (by omega)]
    · rfl
theorem sg_front (l e : List UInt8) (k : Nat) (hk : k < l.length) : sg (l.take (k + 1) ++ e) = sg l := by
  cases l with
  | nil => simp at hk
  | cons c l =>
    rw [List.take_succ_cons, List.cons_append]
    by_cases h : c = 45
    · subst h; rfl
    · unfold sg
      split
      · rename_i h1; cases h1; exact absurd rfl h
      · split
        · rename_i h1; cases h1; exact absurd rfl h
        · rfl
theorem drop_front (l e : List UInt8) (k m : Nat) (hm : m ≤ k) (hk : k < l.length) : (l.take (k + 1) ++ e).drop m = (l.drop m).take (k - m + 1) ++ e := by
  rw [List.drop_append_of_le_length (by simp; omega), List.drop_take]
  congr 2; omega
theorem pt_front (l e : List UInt8) (k : Nat) (hk : k < l.length) (hp : pt l ≤ k) : pt (l.take (k + 1) ++ e) = pt l := by
  unfold pt at *
  rw [sg_front l e k hk, drop_front l e k _ (by omega) hk, dgN_front _ _ _ (by rw [List.length_drop]; omega) (by omega)]
theorem en_front (l e : List UInt8) (k : Nat) (hk : k < l.length) (hp : pt l ≤ k) (he : en l ≤ k) : en (l.take (k + 1) ++ e) = en l := by
  unfold en at *
  rw [pt_front l e k hk hp, drop_front l e k _ (by omega) hk, dgN_front _ _ _ (by rw [List.length_drop]; omega) (by omega)]
/-- what can't go on can't by another end -/
theorem cut_front {l : List UInt8} {n : Nat} (h : cut l = .bad n) (hn : n < l.length) (e : List UInt8) : cut (l.take (n + 1) ++ e) = .bad n := by
  have hlen : n + 1 ≤ (l.take (n + 1) ++ e).length := by simp; omega
  have h0 := h
  unfold cut at h
  split at h
  · rename_i hp
    cases h
    have e1 := pt_front l e _ hn (Nat.le_refl _)
    unfold cut
    rw [e1, sg_front l e _ hn, if_pos hp]
  rename_i hp
  split at h
  · cases h
  split at h
  · rename_i hq
    cases h
    have e1 := pt_front l e _ hn (Nat.le_refl _)
    unfold cut
    rw [e1, sg_front l e _ hn, if_neg hp, if_neg (by omega)]
    have : (l.take (pt l + 1) ++ e)[pt l]? = l[pt l]? := by
      rw [List.getElem?_append_left (by simp; omega), List.getElem?_take_of_lt (by omega)]
    rw [this, if_pos hq]
  rename_i hq
  split at h
  · rename_i hr
    cases h
    have hpe : pt l < en l := by unfold en; omega
    have e1 := pt_front l e _ hn (by omega)
    have e2 := en_front l e _ hn (by omega) (Nat.le_refl _)
    unfold cut
    rw [e1, e2, sg_front l e _ hn, if_neg hp, if_neg (by omega)]
    have : (l.take (en l + 1) ++ e)[pt l]? = l[pt l]? := by
      rw [List.getElem?_append_left (by simp; omega), List.getElem?_take_of_lt (by omega)]
    rw [this, if_neg hq, if_pos (Or.inr (by omega))]
  · cases h

end Go.Proofs.YtkmcjmpdmgdcoaaGreatDoor.Dc

/- Plain mathematics: noughts taken off texts; a decimal's own text. No program. -/
set_option linter.unusedVariables false
set_option linter.unusedSimpArgs false
namespace Go.Proofs.YtkmcjmpdmgdcoaaGreatDoor.Dc

/-! ### a byte taken off a text's ends -/
def trimL (c : UInt8) : List UInt8 → List UInt8
  | [] => []
  | x :: l => if x = c then trimL c l else x :: l
theorem trimL_len (c : UInt8) (l : List UInt8) : (trimL c l).length ≤ l.length := by
  induction l with
  | nil => exact Nat.le_refl _
  | cons x l ih => rw [trimL]; split <;> simp; omega
theorem trimL_is (c : UInt8) (l : List UInt8) : ∃ j, l = List.replicate j c ++ trimL c l := by
  induction l with
  | nil => exact ⟨0, rfl⟩
  | cons x l ih =>
    rw [trimL]
    split
    · rename_i h
      obtain ⟨j, e⟩ := ih
      refine ⟨j + 1, ?_⟩
      rw [List.replicate_succ, List.cons_append, ← e, h]
    · exact ⟨0, rfl⟩
theorem trimL_head (c : UInt8) (l : List UInt8) : ∀ x r, trimL c l = x :: r → x ≠ c := by
  induction l with
  | nil => intro x r e; cases e
  | cons y l ih =>
    intro x r e
    rw [trimL] at e
    split at e
    · exact ih x r e
    · rename_i h; cases e; exact h
def trimR (c : UInt8) (l : List UInt8) : List UInt8 := (trimL c l.reverse).reverse
theorem trimR_snoc (c : UInt8) (l : List UInt8) : trimR c (l ++ [c]) = trimR c l := by
  unfold trimR
  rw [List.reverse_append, List.reverse_singleton, List.singleton_append, trimL, if_pos rfl]
theorem trimR_stop (c x : UInt8) (l : List UInt8) (h : x ≠ c) : trimR c (l ++ [x]) = l ++ [x] := by
  unfold trimR
  rw [List.reverse_append, List.reverse_singleton, List.singleton_append, trimL, if_neg h]
  simp
theorem trimR_nil (c : UInt8) : trimR c [] = [] := rfl
theorem trimR_len (c : UInt8) (l : List UInt8) : (trimR c l).length ≤ l.length := by
  unfold trimR
  have := trimL_len c l.reverse
  rw [List.length_reverse] at *
  exact this
theorem trimR_is (c : UInt8) (l : List UInt8) : ∃ j, l = trimR c l ++ List.replicate j c := by
  obtain ⟨j, e⟩ := trimL_is c l.reverse
  refine ⟨j, ?_⟩
  have := congrArg List.reverse e
  rw [List.reverse_reverse, List.reverse_append, List.reverse_replicate] at this
  exact this
theorem trimR_last (c : UInt8) (l : List UInt8) : ∀ i x, trimR c l = i ++ [x] → x ≠ c := by
  intro i x e
  unfold trimR at e
  have := congrArg List.reverse e
  rw [List.reverse_reverse, List.reverse_append, List.reverse_singleton, List.singleton_append] at this
  exact trimL_head c _ x _ this

theorem vals_zeros (n : Nat) : vals (List.replicate n 48) = List.replicate n 0 := by
  unfold vals; rw [List.map_replicate]; rfl
theorem dv_ne {c : UInt8} (h : dg c = true) (h0 : c ≠ 48) : dv c ≠ 0 := by
  have := (dg_iff c).1 h
  unfold dv
  intro e
  exact h0 (UInt8.toNat_inj.1 (by show c.toNat = 48; omega))

/-! ### the number of a text's digits -/
def numOf (neg : Bool) (d e : List UInt8) : Option (Int × Nat) :=
  if 19 < (trimL 48 d).length ∨ 19 < (trimL 48 d).length + (trimR 48 e).length then none
  else if big < valN (vals (trimL 48 d ++ trimR 48 e)) then none
  else decOf (decide ((if neg then -(valN (vals (trimL 48 d ++ trimR 48 e)) : Int) else (valN (vals (trimL 48 d ++ trimR 48 e)) : Int)) < 0)) (valN (vals (trimL 48 d ++ trimR 48 e))) (trimR 48 e).length
theorem numOf_is (neg : Bool) (d e : List UInt8) (hd : allDg d) (he : allDg e) : numOf neg d e = decOf neg (valN (vals (d ++ e))) e.length := by
  obtain ⟨j, ej⟩ := trimL_is 48 d
  obtain ⟨k, ek⟩ := trimR_is 48 e
  have hL := trimL_head 48 d
  have hR := trimR_last 48 e
  unfold numOf
  generalize trimL 48 d = L at *
  generalize trimR 48 e = B at *
  have hLd : allDg L := fun c hc => hd c (by rw [ej]; simp [hc])
  have hBd : allDg B := fun c hc => he c (by rw [ek]; simp [hc])
  have hv : valN (vals (d ++ e)) = valN (vals (L ++ B)) * 10 ^ k := by
    rw [ej, ek, List.append_assoc, vals_app, vals_zeros, valN_zeros, ← List.append_assoc, vals_app, vals_zeros, valN_pad]
  have hel : e.length = B.length + k := by rw [ek]; simp
  rw [hv, hel, decOf_pad]
  have h9 := vals_le (allDg_app hLd hBd)
  have hz : valN (vals (L ++ B)) = 0 → L = [] ∧ B = [] := by
    intro h0
    refine ⟨?_, ?_⟩
    · cases L with
      | nil => rfl
      | cons c r =>
        exfalso
        have h1 := valN_ge (dv c) (vals (r ++ B)) (dv_ne (hLd c (by simp)) (hL c r rfl))
        have h2 : 0 < 10 ^ (vals (r ++ B)).length := Nat.pow_pos (by omega)
        have h3 : vals (c :: r ++ B) = dv c :: vals (r ++ B) := rfl
        rw [h3] at h0
        omega
    · rcases List.eq_nil_or_concat B with h | ⟨i, x, hx⟩
      · exact h
      · exfalso
        have hx' : B = i ++ [x] := by simpa using hx
        have hne := dv_ne (hBd x (by rw [hx']; simp)) (hR i x hx')
        rw [hx', ← List.append_assoc, vals_app] at h0
        have h1 := valN_snoc (vals (L ++ i)) (dv x)
        have h2 : vals [x] = [dv x] := rfl
        rw [h2] at h0
        omega
  by_cases hn : valN (vals (L ++ B)) = 0
  · obtain ⟨rfl, rfl⟩ := hz hn
    have h0 : valN (vals (([] : List UInt8) ++ [])) = 0 := rfl
    rw [h0]
    rw [if_neg (by simp), if_neg (by omega)]
    exact decOf_zero _ _ _
  · have hst : strip B.length (valN (vals (L ++ B))) = (valN (vals (L ++ B)), B.length) := by
      refine strip_id _ _ ?_
      rcases List.eq_nil_or_concat B with h | ⟨i, x, hx⟩
      · exact Or.inl (by rw [h]; rfl)
      · right
        have hx' : B = i ++ [x] := by simpa using hx
        have hne := dv_ne (hBd x (by rw [hx']; simp)) (hR i x hx')
        have h9 : dv x ≤ 9 := vals_le hBd (dv x) (by rw [hx']; simp [vals])
        rw [hx', ← List.append_assoc, vals_app]
        have h2 : vals [x] = [dv x] := rfl
        rw [h2, valN_snoc]
        omega
    have hdec : ∀ ng, decOf ng (valN (vals (L ++ B))) (B.length : Int) = if valN (vals (L ++ B)) ≤ big ∧ B.length ≤ 18 then some (if ng then -(valN (vals (L ++ B)) : Int) else (valN (vals (L ++ B)) : Int), B.length) else none := by
      intro ng
      unfold decOf
      rw [if_neg (by omega), if_neg hn, Int.toNat_natCast, hst]
    rw [hdec, hdec]
    have hge : 0 < L.length → 10 ^ (L.length + B.length - 1) ≤ valN (vals (L ++ B)) := by
      intro hl
      cases L with
      | nil => simp at hl
      | cons c r =>
        have h1 := valN_ge (dv c) (vals (r ++ B)) (dv_ne (hLd c (by simp)) (hL c r rfl))
        have h3 : vals (c :: r ++ B) = dv c :: vals (r ++ B) := rfl
        rw [h3]
        rw [vals_len, List.length_append] at h1
        have h4 : (c :: r).length + B.length - 1 = r.length + B.length := by simp
        rw [h4]
        exact h1
    by_cases h1 : 19 < L.length ∨ 19 < L.length + B.length
    · rw [if_pos h1, if_neg]
      rintro ⟨h2, h3⟩
      have h4 := hge (by omega)
      have h5 : 10 ^ 19 ≤ 10 ^ (L.length + B.length - 1) := Nat.pow_le_pow_right (by omega) (by omega)
      unfold big at h2
      omega
    · rw [if_neg h1]
      by_cases h2 : big < valN (vals (L ++ B))
      · rw [if_pos h2, if_neg (by omega)]
      · rw [if_neg h2]
        have h3 : decide ((if neg = true then -(valN (vals (L ++ B)) : Int) else (valN (vals (L ++ B)) : Int)) < 0) = neg := by
          cases neg
          · simp
          · simp; omega
        rw [h3]

/-! ### a decimal's text -/
def dgt (n i : Nat) : Nat := n / 10 ^ i % 10
def ch (n i : Nat) : UInt8 := UInt8.ofNat (48 + dgt n i)
theorem dgt_le (n i : Nat) : dgt n i ≤ 9 := by unfold dgt; omega
theorem ch_nat (n i : Nat) : (ch n i).toNat = 48 + dgt n i := by
  unfold ch
  have := dgt_le n i
  simp; omega
theorem ch_dg (n i : Nat) : dg (ch n i) = true := by
  rw [dg_iff, ch_nat]
  have := dgt_le n i
  omega
theorem ch_dv (n i : Nat) : dv (ch n i) = dgt n i := by unfold dv; rw [ch_nat]; omega
/-- the last k digits, the first one first, with the point where it belongs -/
def bd (n s : Nat) : Nat → List UInt8
  | 0 => []
  | k + 1 => ch n k :: (if 0 < k ∧ k = s then 46 :: bd n s k else bd n s k)
def printL (m s : Int) : List UInt8 := if goodD m s = true then sgn (decide (m < 0)) ++ bd m.natAbs s.toNat (max (digs m.natAbs).length (s.toNat + 1)) else []
def dl (n : Nat) : Nat → List UInt8
  | 0 => []
  | k + 1 => ch n k :: dl n k
def dh (n s : Nat) : Nat → List UInt8
  | 0 => []
  | j + 1 => ch n (s + j) :: dh n s j
theorem dl_len (n k : Nat) : (dl n k).length = k := by induction k with | zero => rfl | succ k ih => rw [dl, List.length_cons, ih]
theorem dl_dg (n k : Nat) : allDg (dl n k) := by
  induction k with
  | zero => exact fun c hc => absurd hc List.not_mem_nil
  | succ k ih =>
    intro c hc
    rcases List.mem_cons.1 hc with rfl | hc
    · exact ch_dg n k
    · exact ih c hc
theorem dh_dg (n s j : Nat) : allDg (dh n s j) := by
  induction j with
  | zero => exact fun c hc => absurd hc List.not_mem_nil
  | succ k ih =>
    intro c hc
    rcases List.mem_cons.1 hc with rfl | hc
    · exact ch_dg n (s + k)
    · exact ih c hc
theorem bd_low (n s k : Nat) (h : k ≤ s) : bd n s k = dl n k := by
  induction k with
  | zero => rfl
  | succ k ih => rw [bd, dl, if_neg (by omega), ih (by omega)]
theorem bd_is (n s j : Nat) : bd n s (s + (j + 1)) = dh n s (j + 1) ++ dot (dl n s) := by
  induction j with
  | zero =>
    show bd n s (s + 1) = [ch n s] ++ dot (dl n s)
    rw [bd, bd_low n s s (Nat.le_refl _)]
    cases s with
    | zero => rw [if_neg (by omega)]; rfl
    | succ s => rw [if_pos (by omega)]; rfl
  | succ j ih =>
    show bd n s (s + (j + 1) + 1) = ch n (s + (j + 1)) :: dh n s (j + 1) ++ _
    rw [bd, if_neg (by omega), ih]; rfl
theorem dh_dl (n s j : Nat) : dh n s j ++ dl n s = dl n (s + j) := by
  induction j with
  | zero => rfl
  | succ j ih => show ch n (s + j) :: dh n s j ++ dl n s = dl n (s + j + 1); rw [dl, ← ih]; rfl
theorem vals_dl (n k : Nat) : valN (vals (dl n k)) = n % 10 ^ k := by
  induction k with
  | zero => simp [dl, vals, valN]; omega
  | succ k ih =>
    show valN (dv (ch n k) :: vals (dl n k)) = _
    rw [valN_cons, ih, ch_dv, vals_len, dl_len, dgt, Nat.pow_succ, Nat.mod_mul]
    rw [Nat.add_comm, Nat.mul_comm]
theorem bd_split (n s : Nat) (K : Nat) (hK : s < K) : ∃ d, allDg d ∧ d ≠ [] ∧ bd n s K = d ++ dot (dl n s) ∧ valN (vals (d ++ dl n s)) = n % 10 ^ K := by
  obtain ⟨j, rfl⟩ : ∃ j, K = s + (j + 1) := ⟨K - s - 1, by omega⟩
  refine ⟨dh n s (j + 1), dh_dg _ _ _, by simp [dh], bd_is n s j, ?_⟩
  rw [dh_dl, vals_dl]
/-- a decimal's text, by its digits ahead of and behind the point -/
theorem printL_is (m s : Int) (h : goodD m s = true) : ∃ d, allDg d ∧ d ≠ [] ∧ printL m s = sgn (decide (m < 0)) ++ (d ++ dot (dl m.natAbs s.toNat)) ∧ valN (vals (d ++ dl m.natAbs s.toNat)) = m.natAbs := by
  obtain ⟨d, h1, h2, h3, h4⟩ := bd_split m.natAbs s.toNat (max (digs m.natAbs).length (s.toNat + 1)) (by omega)
  refine ⟨d, h1, h2, ?_, ?_⟩
  · unfold printL; rw [if_pos h, h3]
  · rw [h4]
    refine Nat.mod_eq_of_lt ?_
    have h5 := digs_lt m.natAbs
    have h6 : 10 ^ (digs m.natAbs).length ≤ 10 ^ (max (digs m.natAbs).length (s.toNat + 1)) := Nat.pow_le_pow_right (by omega) (by omega)
    omega
/-- with noughts ahead, and behind the last digit behind the point, it is read as it was -/
theorem parse_noughts (m s : Int) (hm : m.natAbs ≤ big) (h : goodD m s = true) (a b : Nat) (d : List UInt8) (hd : allDg d) (hne : d ≠ []) (hv : valN (vals (d ++ dl m.natAbs s.toNat)) = m.natAbs) :
    parse (sgn (decide (m < 0)) ++ (List.replicate a 48 ++ d) ++ dot (dl m.natAbs s.toNat ++ List.replicate b 48)) = ((m, s), 0, 0) := by
  have hz : ∀ n, allDg (List.replicate n 48) := fun n c hc => by obtain ⟨_, rfl⟩ := List.mem_replicate.1 hc; rfl
  rw [parse_ok (cut_text _ _ _ (allDg_app (hz a) hd) (by simp [hne]) (allDg_app (dl_dg _ _) (hz b)))]
  have e1 : valN (vals (List.replicate a 48 ++ d ++ (dl m.natAbs s.toNat ++ List.replicate b 48))) = m.natAbs * 10 ^ b := by
    rw [List.append_assoc, vals_app, vals_zeros, valN_zeros, ← List.append_assoc, vals_app, vals_zeros, valN_pad, hv]
  have e2 : ((dl m.natAbs s.toNat ++ List.replicate b 48).length : Int) = ((s.toNat + b : Nat) : Int) := by simp [dl_len]
  have hg := (goodD_iff m s).1 h
  have e3 : decOf (decide (m < 0)) m.natAbs (s.toNat : Int) = some (m, s.toNat) := by
    rw [Int.toNat_of_nonneg hg.1]; exact decOf_good m s hm h
  rw [e1, e2, decOf_pad, e3]
  show ((m, ((s.toNat : Nat) : Int)), (0 : Int), (0 : Int)) = _
  rw [Int.toNat_of_nonneg hg.1]
theorem parse_print (m s : Int) (hm : m.natAbs ≤ big) (h : goodD m s = true) : parse (printL m s) = ((m, s), 0, 0) := by
  obtain ⟨d, h1, h2, h3, h4⟩ := printL_is m s h
  have := parse_noughts m s hm h 0 0 d h1 h2 h4
  simp only [List.replicate_zero, List.nil_append, List.append_nil] at this
  rw [h3, ← List.append_assoc]; exact this
theorem print_ne (m s : Int) (h : goodD m s = true) : printL m s ≠ [] := by
  obtain ⟨d, _, h2, h3, _⟩ := printL_is m s h
  rw [h3]; simp [h2]
theorem digs_small {n : Nat} (h : n ≤ big) : (digs n).length ≤ 19 := digs_len_le (by unfold big at h; omega)
theorem bd_len (n s k : Nat) : (bd n s k).length ≤ k + 1 := by
  by_cases h : k ≤ s
  · rw [bd_low n s k h, dl_len]; omega
  · obtain ⟨j, rfl⟩ : ∃ j, k = s + (j + 1) := ⟨k - s - 1, by omega⟩
    have h1 := congrArg List.length (dh_dl n s (j + 1))
    rw [List.length_append, dl_len, dl_len] at h1
    rw [bd_is, List.length_append]
    have : (dot (dl n s)).length ≤ s + 1 := by unfold dot; split <;> simp [dl_len]
    omega
theorem printL_len (m s : Int) (hm : m.natAbs ≤ big) : (printL m s).length ≤ 40 := by
  unfold printL
  split
  · rename_i hg
    obtain ⟨h1, h2, _, _⟩ := (goodD_iff m s).1 hg
    have h3 := bd_len m.natAbs s.toNat (max (digs m.natAbs).length (s.toNat + 1))
    have h4 := digs_small hm
    have h5 : (sgn (decide (m < 0))).length ≤ 1 := by unfold sgn; split <;> simp
    rw [List.length_append]; omega
  · simp

end Go.Proofs.YtkmcjmpdmgdcoaaGreatDoor.Dc

/- Plain mathematics: numbers by their digits, the last one first: sums, differences, products, quotients, column by column. No program. -/
set_option linter.unusedVariables false
set_option linter.unusedSimpArgs false
namespace Go.Proofs.YtkmcjmpdmgdcoaaGreatDoor.Dc

theorem pw (i : Nat) : 0 < 10 ^ i := Nat.pow_pos (by omega)
theorem mod_step (n i : Nat) : n % 10 ^ (i + 1) = n % 10 ^ i + dgt n i * 10 ^ i := by
  rw [Nat.pow_succ, Nat.mod_mul, Nat.mul_comm (10 ^ i)]; rfl
theorem div_step (n i : Nat) : n / 10 ^ i = 10 * (n / 10 ^ (i + 1)) + dgt n i := by
  unfold dgt
  rw [Nat.pow_succ, ← Nat.div_div_eq_div_mul]; omega
theorem dgt_zero_of_lt {n i : Nat} (h : n < 10 ^ i) : dgt n i = 0 := by unfold dgt; rw [Nat.div_eq_of_lt h]
theorem dgt_zero (i : Nat) : dgt 0 i = 0 := by unfold dgt; simp
theorem dgt_of_le {n i k : Nat} (h : n < 10 ^ i) (hk : i ≤ k) : dgt n k = 0 := dgt_zero_of_lt (Nat.lt_of_lt_of_le h (Nat.pow_le_pow_right (by omega) hk))
theorem lt_pow_of_dgts {n k : Nat} (m : Nat) (h : n < 10 ^ (k + m)) (h0 : ∀ i, k ≤ i → i < k + m → dgt n i = 0) : n < 10 ^ k := by
  induction m with
  | zero => exact h
  | succ m ih =>
    refine ih ?_ (fun i h1 h2 => h0 i h1 (by omega))
    have h1 := h0 (k + m) (by omega) (by omega)
    have h2 := div_step n (k + m)
    rw [h1, Nat.div_eq_of_lt (show n < 10 ^ (k + m + 1) from h)] at h2
    rcases Nat.div_eq_zero_iff.1 h2 with h3 | h3
    · have := pw (k + m); omega
    · exact h3
/-- a digit moved up -/
theorem dgt_up (n u i : Nat) : dgt (n * 10 ^ u) i = if u ≤ i then dgt n (i - u) else 0 := by
  unfold dgt
  split
  · rename_i h
    obtain ⟨j, rfl⟩ : ∃ j, i = u + j := ⟨i - u, by omega⟩
    rw [Nat.pow_add, ← Nat.div_div_eq_div_mul, Nat.mul_div_cancel _ (pw u), show u + j - u = j by omega]
  · rename_i h
    obtain ⟨j, rfl⟩ : ∃ j, u = i + 1 + j := ⟨u - i - 1, by omega⟩
    rw [show n * 10 ^ (i + 1 + j) = (n * 10 ^ j * 10) * 10 ^ i by rw [show i + 1 + j = j + 1 + i by omega, Nat.pow_add, Nat.pow_succ]; simp only [Nat.mul_assoc], Nat.mul_div_cancel _ (pw i)]
    omega
theorem dgt_down (n u i : Nat) : dgt (n / 10 ^ u) i = dgt n (u + i) := by
  unfold dgt
  rw [Nat.pow_add, Nat.div_div_eq_div_mul]
theorem dgt_low (P z i k : Nat) (h : k < i) : dgt (P + z * 10 ^ i) k = dgt P k := by
  unfold dgt
  obtain ⟨j, rfl⟩ : ∃ j, i = k + 1 + j := ⟨i - k - 1, by omega⟩
  rw [show z * 10 ^ (k + 1 + j) = (z * 10 ^ j * 10) * 10 ^ k by rw [show k + 1 + j = j + 1 + k by omega, Nat.pow_add, Nat.pow_succ]; simp only [Nat.mul_assoc], Nat.add_mul_div_right _ _ (pw k)]
  omega

/-! ### one column -/
theorem col_carry (A t k : Nat) : (A + t * 10 ^ k) / 10 ^ (k + 1) = (A / 10 ^ k + t) / 10 := by
  rw [Nat.pow_succ, ← Nat.div_div_eq_div_mul, Nat.add_mul_div_right _ _ (pw k)]
theorem col_digit (A t k R : Nat) : dgt (A + t * 10 ^ k + R * 10 ^ (k + 1)) k = (A / 10 ^ k + t) % 10 := by
  unfold dgt
  rw [show R * 10 ^ (k + 1) = (R * 10) * 10 ^ k by rw [Nat.pow_succ, Nat.mul_assoc, Nat.mul_comm 10], Nat.add_mul_div_right _ _ (pw k), Nat.add_mul_div_right _ _ (pw k)]
  omega

/-! ### sums -/
/-- what is carried into the place i -/
def cy (x y i : Nat) : Nat := (x % 10 ^ i + y % 10 ^ i) / 10 ^ i
theorem cy_zero (x y : Nat) : cy x y 0 = 0 := by unfold cy; simp [Nat.mod_one]
theorem cy_le (x y i : Nat) : cy x y i ≤ 1 := by
  unfold cy
  have h1 := Nat.mod_lt x (pw i)
  have h2 := Nat.mod_lt y (pw i)
  have : (x % 10 ^ i + y % 10 ^ i) / 10 ^ i < 2 := (Nat.div_lt_iff_lt_mul (pw i)).2 (by omega)
  omega
theorem sum_col (x y i : Nat) : x % 10 ^ (i + 1) + y % 10 ^ (i + 1) = x % 10 ^ i + y % 10 ^ i + (dgt x i + dgt y i) * 10 ^ i := by
  rw [mod_step x, mod_step y, Nat.add_mul]; omega
theorem cy_step (x y i : Nat) : cy x y (i + 1) = (dgt x i + dgt y i + cy x y i) / 10 := by
  unfold cy
  rw [sum_col, col_carry, Nat.add_comm]
theorem plus_dgt (x y i : Nat) : dgt (x + y) i = (dgt x i + dgt y i + cy x y i) % 10 := by
  have h1 := Nat.div_add_mod' x (10 ^ (i + 1))
  have h2 := Nat.div_add_mod' y (10 ^ (i + 1))
  have e : x + y = x % 10 ^ i + y % 10 ^ i + (dgt x i + dgt y i) * 10 ^ i + (x / 10 ^ (i + 1) + y / 10 ^ (i + 1)) * 10 ^ (i + 1) := by
    rw [← sum_col, Nat.add_mul]; omega
  rw [show dgt (x + y) i = dgt (x % 10 ^ i + y % 10 ^ i + (dgt x i + dgt y i) * 10 ^ i + (x / 10 ^ (i + 1) + y / 10 ^ (i + 1)) * 10 ^ (i + 1)) i by rw [← e], col_digit, Nat.add_comm]
  rfl
/-! ### differences -/
theorem minus_dgt (x y i : Nat) (h : y ≤ x) : dgt (x - y) i = (10 + dgt x i - dgt y i - cy (x - y) y i) % 10 ∧ cy (x - y) y (i + 1) = 1 - (10 + dgt x i - dgt y i - cy (x - y) y i) / 10 := by
  have h1 := plus_dgt (x - y) y i
  have h2 := cy_step (x - y) y i
  rw [Nat.sub_add_cancel h] at h1
  have h3 := dgt_le (x - y) i
  have h4 := dgt_le y i
  have h5 := cy_le (x - y) y i
  omega

/-! ### products -/
/-- what is carried into the place i + j, where d times y is added to P at the place i -/
def cz (P d y i j : Nat) : Nat := (P % 10 ^ (i + j) + d * 10 ^ i * (y % 10 ^ j)) / 10 ^ (i + j)
theorem cz_zero (P d y i : Nat) : cz P d y i 0 = 0 := by
  unfold cz
  rw [Nat.pow_zero, Nat.mod_one, Nat.mul_zero, Nat.add_zero, Nat.add_zero]
  exact Nat.div_eq_of_lt (Nat.mod_lt _ (pw i))
theorem cz_le (P d y i j : Nat) (hd : d ≤ 9) : cz P d y i j ≤ 9 := by
  unfold cz
  have h1 := Nat.mod_lt P (pw (i + j))
  have h2 : d * 10 ^ i * (y % 10 ^ j) ≤ 9 * 10 ^ (i + j) := by
    rw [Nat.pow_add, ← Nat.mul_assoc]
    exact Nat.mul_le_mul (Nat.mul_le_mul_right _ hd) (Nat.le_of_lt (Nat.mod_lt _ (pw j)))
  have : (P % 10 ^ (i + j) + d * 10 ^ i * (y % 10 ^ j)) / 10 ^ (i + j) < 10 := (Nat.div_lt_iff_lt_mul (pw _)).2 (by omega)
  omega
theorem prod_col (P d y i j : Nat) : P % 10 ^ (i + j + 1) + d * 10 ^ i * (y % 10 ^ (j + 1)) = P % 10 ^ (i + j) + d * 10 ^ i * (y % 10 ^ j) + (dgt P (i + j) + d * dgt y j) * 10 ^ (i + j) := by
  rw [mod_step P, mod_step y, Nat.mul_add, Nat.add_mul, show d * 10 ^ i * (dgt y j * 10 ^ j) = d * dgt y j * 10 ^ (i + j) by rw [Nat.pow_add, Nat.mul_mul_mul_comm]]
  omega
theorem cz_step (P d y i j : Nat) : cz P d y i (j + 1) = (dgt P (i + j) + d * dgt y j + cz P d y i j) / 10 := by
  unfold cz
  rw [← Nat.add_assoc, prod_col, col_carry, Nat.add_comm]
theorem prod_dgt (P d y i j : Nat) : dgt (P + d * 10 ^ i * y) (i + j) = (dgt P (i + j) + d * dgt y j + cz P d y i j) % 10 := by
  have h1 := Nat.div_add_mod' P (10 ^ (i + j + 1))
  have h2 := Nat.div_add_mod' y (10 ^ (j + 1))
  have h3 : d * 10 ^ i * y = d * 10 ^ i * (y % 10 ^ (j + 1)) + (d * (y / 10 ^ (j + 1))) * 10 ^ (i + j + 1) := by
    conv => lhs; rw [← h2]
    have e2 : d * 10 ^ i * (y / 10 ^ (j + 1) * 10 ^ (j + 1)) = d * (y / 10 ^ (j + 1)) * 10 ^ (i + j + 1) := by
      generalize y / 10 ^ (j + 1) = q
      rw [Nat.mul_mul_mul_comm, ← Nat.pow_add, Nat.add_assoc]
    rw [Nat.mul_add, e2]
    omega
  have e : P + d * 10 ^ i * y = P % 10 ^ (i + j) + d * 10 ^ i * (y % 10 ^ j) + (dgt P (i + j) + d * dgt y j) * 10 ^ (i + j) + (P / 10 ^ (i + j + 1) + d * (y / 10 ^ (j + 1))) * 10 ^ (i + j + 1) := by
    rw [← prod_col, Nat.add_mul, h3]; omega
  rw [show dgt (P + d * 10 ^ i * y) (i + j) = dgt (P % 10 ^ (i + j) + d * 10 ^ i * (y % 10 ^ j) + (dgt P (i + j) + d * dgt y j) * 10 ^ (i + j) + (P / 10 ^ (i + j + 1) + d * (y / 10 ^ (j + 1))) * 10 ^ (i + j + 1)) (i + j) by rw [← e], col_digit, Nat.add_comm]
  rfl
theorem part_step (x y i : Nat) : x % 10 ^ (i + 1) * y = x % 10 ^ i * y + dgt x i * 10 ^ i * y := by rw [mod_step, Nat.add_mul]
theorem part_lt (x y i n : Nat) (hy : y < 10 ^ n) : x % 10 ^ i * y < 10 ^ (i + n) := by
  rw [Nat.pow_add]
  have h1 := Nat.mod_lt x (pw i)
  by_cases h0 : y = 0
  · subst h0; rw [Nat.mul_zero]; exact Nat.mul_pos (pw i) (pw n)
  · exact Nat.mul_lt_mul_of_lt_of_lt h1 hy
theorem cz_last (x y i n : Nat) (hy : y < 10 ^ n) : cz (x % 10 ^ i * y) (dgt x i) y i n = dgt (x % 10 ^ (i + 1) * y) (i + n) := by
  have h1 := part_lt x y i n hy
  have h2 := part_lt x y (i + 1) n hy
  unfold cz
  rw [Nat.mod_eq_of_lt h1, Nat.mod_eq_of_lt hy, ← part_step]
  unfold dgt
  rw [show i + 1 + n = (i + n) + 1 by omega, Nat.pow_succ 10 (i + n), Nat.mul_comm (10 ^ (i + n))] at h2
  exact (Nat.mod_eq_of_lt ((Nat.div_lt_iff_lt_mul (pw _)).2 h2)).symm

/-! ### quotients -/
theorem over_rest (x y i : Nat) : (x / 10 ^ i) % y = (10 * (x / 10 ^ (i + 1) % y) + dgt x i) % y := by
  rw [div_step x i, Nat.add_mod, Nat.mul_mod, Nat.add_mod (10 * (x / 10 ^ (i + 1) % y)), Nat.mul_mod 10 (x / 10 ^ (i + 1) % y), Nat.mod_mod]
theorem over_digit (x y i : Nat) (hy : 0 < y) : dgt (x / y) i = (10 * (x / 10 ^ (i + 1) % y) + dgt x i) / y ∧ (10 * (x / 10 ^ (i + 1) % y) + dgt x i) / y ≤ 9 := by
  have h1 := Nat.mod_lt (x / 10 ^ (i + 1)) hy
  have h2 := dgt_le x i
  have h3 : (10 * (x / 10 ^ (i + 1) % y) + dgt x i) / y < 10 := (Nat.div_lt_iff_lt_mul hy).2 (by omega)
  refine ⟨?_, by omega⟩
  have e : x / y / 10 ^ i = 10 * (x / 10 ^ (i + 1) / y) + (10 * (x / 10 ^ (i + 1) % y) + dgt x i) / y := by
    rw [Nat.div_div_eq_div_mul, Nat.mul_comm y, ← Nat.div_div_eq_div_mul, div_step x i]
    have h4 := Nat.div_add_mod (x / 10 ^ (i + 1)) y
    generalize x / 10 ^ (i + 1) = q at *
    conv => lhs; rw [← h4]
    rw [Nat.mul_add, ← Nat.mul_assoc, Nat.mul_comm 10 y, Nat.mul_assoc, Nat.add_assoc, Nat.mul_add_div hy]
  show x / y / 10 ^ i % 10 = _
  rw [e, Nat.mul_add_mod]
  exact Nat.mod_eq_of_lt h3

/-! ### which of two is greater -/
def ord3 (x y : Int) : Int := if x < y then -1 else if y < x then 1 else 0
theorem ord3_lt {x y : Int} (h : x < y) : ord3 x y = -1 := by unfold ord3; rw [if_pos h]
theorem ord3_gt {x y : Int} (h : y < x) : ord3 x y = 1 := by unfold ord3; rw [if_neg (by omega), if_pos h]
theorem ord3_eq {x y : Int} (h : x = y) : ord3 x y = 0 := by unfold ord3; rw [if_neg (by omega), if_neg (by omega)]
theorem ord3_cases (x y : Int) : (x < y ∧ ord3 x y = -1) ∨ (y < x ∧ ord3 x y = 1) ∨ (x = y ∧ ord3 x y = 0) := by
  rcases Int.lt_trichotomy x y with h | h | h
  · exact Or.inl ⟨h, ord3_lt h⟩
  · exact Or.inr (Or.inr ⟨h, ord3_eq h⟩)
  · exact Or.inr (Or.inl ⟨h, ord3_gt h⟩)
theorem ord_lt_of_dgt {x y i : Nat} (he : x / 10 ^ (i + 1) = y / 10 ^ (i + 1)) (h : dgt x i < dgt y i) : x < y := by
  have h1 := div_step x i
  have h2 := div_step y i
  by_cases hc : x < y
  · exact hc
  · have := Nat.div_le_div_right (c := 10 ^ i) (show y ≤ x by omega)
    omega
theorem ord_eq_of_dgt {x y i : Nat} (he : x / 10 ^ (i + 1) = y / 10 ^ (i + 1)) (h : dgt x i = dgt y i) : x / 10 ^ i = y / 10 ^ i := by
  rw [div_step x i, div_step y i, he, h]

/-! ### decimals as whole numbers at the greatest scale -/
def lev (m s : Int) : Nat := m.natAbs * 10 ^ (18 - s).toNat
def zv (m s : Int) : Int := m * 10 ^ (18 - s).toNat
theorem zv_abs (m s : Int) : (zv m s).natAbs = lev m s := by
  unfold zv lev
  rw [Int.natAbs_mul, Int.natAbs_pow]; rfl
theorem pwI (i : Nat) : (0 : Int) < 10 ^ i := Int.pow_pos (by omega)
theorem zv_neg (m s : Int) : zv m s < 0 ↔ m < 0 := by
  unfold zv
  have := pwI (18 - s).toNat
  constructor
  · intro h
    by_cases hm : m < 0
    · exact hm
    · have := Int.mul_nonneg (show 0 ≤ m by omega) (Int.le_of_lt this); omega
  · intro h
    exact Int.mul_neg_of_neg_of_pos h this
theorem zv_zero (s : Int) : zv 0 s = 0 := by unfold zv; simp
theorem zv_negate (m s : Int) : zv (-m) s = - zv m s := by unfold zv; rw [Int.neg_mul]
theorem lev_zero {m s : Int} : lev m s = 0 ↔ m = 0 := by
  unfold lev
  have := pw (18 - s).toNat
  constructor
  · intro h
    rcases Nat.mul_eq_zero.1 h with h | h <;> omega
  · rintro rfl; simp
theorem zv_is (m s : Int) : zv m s = if m < 0 then -(lev m s : Int) else (lev m s : Int) := by
  have h1 := zv_abs m s
  have h2 := zv_neg m s
  split <;> omega
theorem lev_lt {m s : Int} (hm : m.natAbs ≤ big) (hs : 0 ≤ s) : lev m s < 10 ^ 37 := by
  unfold lev
  have h1 : (10 : Nat) ^ (18 - s).toNat ≤ 10 ^ 18 := Nat.pow_le_pow_right (by omega) (by omega)
  have h2 : m.natAbs * 10 ^ (18 - s).toNat ≤ big * 10 ^ 18 := Nat.mul_le_mul hm h1
  unfold big at h2
  omega

def decI (z : Int) : Option (Int × Nat) := decOf (decide (z < 0)) z.natAbs 18
theorem decOf_val {neg : Bool} {n : Nat} {s m : Int} {k : Nat} (h : decOf neg n s = some (m, k)) : (k : Int) ≤ s ∧ k ≤ 18 ∧ m.natAbs * 10 ^ (s.toNat - k) = n := by
  unfold decOf at h
  split at h
  · cases h
  rename_i hs
  split at h
  · rename_i hn
    cases h
    exact ⟨by omega, by omega, by rw [hn]; simp⟩
  · split at h
    · rename_i hb
      obtain ⟨h1, h2, _⟩ := strip_is s.toNat n
      generalize strip s.toNat n = r at *
      simp only [Option.some.injEq, Prod.mk.injEq] at h
      obtain ⟨rfl, rfl⟩ := h
      have habs : (if neg = true then -(r.1 : Int) else (r.1 : Int)).natAbs = r.1 := by split <;> omega
      exact ⟨by omega, hb.2, by rw [habs]; exact h2⟩
    · cases h
theorem decI_good {m s : Int} (hm : m.natAbs ≤ big) (h : goodD m s = true) : decI (zv m s) = some (m, s.toNat) := by
  obtain ⟨h0, h1, _⟩ := (goodD_iff m s).1 h
  have e := decOf_good m s hm h
  have hp := decOf_pad (decide (m < 0)) m.natAbs s.toNat (18 - s).toNat
  unfold decI
  rw [zv_abs, decide_eq_decide.2 (zv_neg m s)]
  unfold lev
  rw [show ((s.toNat + (18 - s).toNat : Nat) : Int) = 18 by omega] at hp
  rw [hp, show ((s.toNat : Nat) : Int) = s by omega, e]
theorem decI_some {z m : Int} {k : Nat} (h : decI z = some (m, k)) : goodD m k = true ∧ m.natAbs ≤ big ∧ zv m k = z := by
  unfold decI at h
  obtain ⟨h1, h2, _, h4, h5⟩ := decOf_is h
  obtain ⟨h6, h7, h8⟩ := decOf_val h
  refine ⟨h1, h2, ?_⟩
  have h9 : lev m k = z.natAbs := by
    unfold lev
    rw [← h8]; congr 2; omega
  rw [zv_is, h9]
  by_cases hz : z.natAbs = 0
  · rw [(h4 hz).1]; simp; omega
  · have := (h5 hz).2
    by_cases hn : z < 0
    · rw [decide_eq_true hn] at this
      rw [if_pos (by simpa using this)]; omega
    · rw [decide_eq_false hn] at this
      rw [if_neg (by simpa using this)]; omega
theorem good_inj {m s n t : Int} (h1 : goodD m s = true) (h2 : goodD n t = true) (k1 : m.natAbs ≤ big) (k2 : n.natAbs ≤ big) (h : zv m s = zv n t) : m = n ∧ s = t := by
  have e1 := decI_good k1 h1
  rw [h, decI_good k2 h2] at e1
  simp only [Option.some.injEq, Prod.mk.injEq] at e1
  have := ((goodD_iff m s).1 h1).1
  have := ((goodD_iff n t).1 h2).1
  exact ⟨e1.1.symm, by omega⟩
theorem decI_same {m s n t : Int} (h : decide (m < 0) = decide (n < 0)) : decOf (decide (m < 0)) (lev m s + lev n t) 18 = decI (zv m s + zv n t) := by
  unfold decI
  have h1 := zv_is m s
  have h2 := zv_is n t
  have hh : m < 0 ↔ n < 0 := decide_eq_decide.1 h
  generalize zv m s = x at *
  generalize zv n t = y at *
  by_cases hm : m < 0
  · rw [if_pos hm] at h1
    rw [if_pos (hh.1 hm)] at h2
    rw [show (x + y).natAbs = lev m s + lev n t by omega]
    by_cases h0 : lev m s + lev n t = 0
    · rw [h0]; exact decOf_zero _ _ _
    · rw [decide_eq_true hm, decide_eq_true (show x + y < 0 by omega)]
  · rw [if_neg hm] at h1
    rw [if_neg (fun e => hm (hh.2 e))] at h2
    rw [show (x + y).natAbs = lev m s + lev n t by omega, decide_eq_false hm, decide_eq_false (show ¬ x + y < 0 by omega)]
theorem decI_less {m s n t : Int} (h : ¬ decide (m < 0) = decide (n < 0)) (hl : lev m s < lev n t) : decOf (decide (n < 0)) (lev n t - lev m s) 18 = decI (zv m s + zv n t) := by
  unfold decI
  have h1 := zv_is m s
  have h2 := zv_is n t
  have hh : ¬ (m < 0 ↔ n < 0) := fun e => h (decide_eq_decide.2 e)
  generalize zv m s = x at *
  generalize zv n t = y at *
  by_cases hn : n < 0
  · have hm : ¬ m < 0 := fun e => hh ⟨fun _ => hn, fun _ => e⟩
    rw [if_neg hm] at h1
    rw [if_pos hn] at h2
    rw [show (x + y).natAbs = lev n t - lev m s by omega, decide_eq_true hn, decide_eq_true (show x + y < 0 by omega)]
  · have hm : m < 0 := by
      by_cases e : m < 0
      · exact e
      · exact absurd ⟨fun x => absurd x e, fun x => absurd x hn⟩ hh
    rw [if_pos hm] at h1
    rw [if_neg hn] at h2
    rw [show (x + y).natAbs = lev n t - lev m s by omega, decide_eq_false hn, decide_eq_false (show ¬ x + y < 0 by omega)]
theorem decI_more {m s n t : Int} (h : ¬ decide (m < 0) = decide (n < 0)) (hl : ¬ lev m s < lev n t) : decOf (decide (m < 0)) (lev m s - lev n t) 18 = decI (zv m s + zv n t) := by
  by_cases he : lev m s = lev n t
  · unfold decI
    have h1 := zv_is m s
    have h2 := zv_is n t
    have hh : ¬ (m < 0 ↔ n < 0) := fun e => h (decide_eq_decide.2 e)
    have : zv m s + zv n t = 0 := by
      by_cases hm : m < 0
      · rw [if_pos hm] at h1
        rw [if_neg (fun e => hh ⟨fun _ => e, fun _ => hm⟩)] at h2
        omega
      · rw [if_neg hm] at h1
        rw [if_pos (by
          by_cases e : n < 0
          · exact e
          · exact absurd ⟨fun x => absurd x hm, fun x => absurd x e⟩ hh)] at h2
        omega
    rw [this, he, Nat.sub_self]
    exact decOf_zero _ _ _
  · rw [Int.add_comm]
    exact decI_less (fun e => h e.symm) (by omega)

/-! ### what the calls answer -/
/-- the sum of one that is valid, and one -/
def plusO (m s n t : Int) : Option (Int × Nat) := if goodD n t = true then decI (zv m s + zv n t) else none
/-- the sum of all, one behind the other -/
def addL : Int → Int → List (Int × Int) → Option (Int × Int)
  | m, s, [] => some (m, s)
  | m, s, x :: r => match plusO m s x.1 x.2 with
    | none => none
    | some (a, k) => addL a k r
def timesO (m s n t : Int) : Option (Int × Nat) := if goodD m s = true ∧ goodD n t = true then decOf (decide (m < 0) != decide (n < 0)) (m.natAbs * n.natAbs) (s + t) else none
/-- the dividend, as a whole number -/
def dvd (m s t : Int) : Nat := m.natAbs * 10 ^ (18 - s + t).toNat
def overO (m s n t : Int) : Option (Int × Nat) :=
  if goodD m s = true ∧ goodD n t = true ∧ n ≠ 0 ∧ dvd m s t % n.natAbs = 0 then decOf (decide (m < 0) != decide (n < 0)) (dvd m s t / n.natAbs) 18 else none
def scaledO (m s k : Int) : Option Int :=
  if goodD m s = true ∧ s ≤ k ∧ k ≤ 18 ∧ m.natAbs * 10 ^ (k - s).toNat ≤ big then some (m * 10 ^ (k - s).toNat) else none
/-- what is not valid counts as 0 -/
def orZ (m s : Int) : Int × Int := if goodD m s = true then (m, s) else (0, 0)
def cmpO (m s n t : Int) : Int := ord3 (zv (orZ m s).1 (orZ m s).2) (zv (orZ n t).1 (orZ n t).2)
theorem orZ_good {m s : Int} (h : goodD m s = true) : orZ m s = (m, s) := by unfold orZ; rw [if_pos h]
theorem orZ_bad {m s : Int} (h : goodD m s = false) : orZ m s = (0, 0) := by unfold orZ; rw [if_neg (by simp [h])]
theorem orZ_is (m s : Int) : goodD (orZ m s).1 (orZ m s).2 = true := by
  cases h : goodD m s with
  | true => rw [orZ_good h]; exact h
  | false => rw [orZ_bad h]; decide
theorem big_of {m s : Int} (h : goodD m s = true) (h1 : -9223372036854775808 ≤ m) (h2 : m ≤ 9223372036854775807) : m.natAbs ≤ big := by
  have := ((goodD_iff m s).1 h).2.2.1
  unfold big; omega

end Go.Proofs.YtkmcjmpdmgdcoaaGreatDoor.Dc

/- Whole numbers and times as plain functions; what package stamp and the reference say of them is the same. -/
set_option maxRecDepth 100000
set_option linter.unusedVariables false
set_option linter.unusedSimpArgs false
namespace Go.Proofs.YtkmcjmpdmgdcoaaGreatDoor.Dc

/-- the whole number of a text behind a sign, or without one, as the document has it: number, code, place -/
def uintO (l : List UInt8) : Int × Int × Int :=
  if dgN l = 0 ∨ dgN l < l.length then (0, 11, (dgN l : Nat))
  else if valN (vals l) ≤ big then ((valN (vals l) : Nat), 0, 0) else (0, 12, 0)
def intO (l : List UInt8) : Int × Int × Int :=
  if (uintO (l.drop (sg l))).2.1 = 11 then (0, 11, (uintO (l.drop (sg l))).2.2 + (sg l : Nat))
  else ((if sg l = 1 then -(uintO (l.drop (sg l))).1 else (uintO (l.drop (sg l))).1), (uintO (l.drop (sg l))).2.1, 0)
/-- as the program has it -/
def wholeO (l : List UInt8) (k : Nat) : Int × Int × Int :=
  if k + dgN (l.drop k) < l.length then (0, 11, ((k + dgN (l.drop k) : Nat) : Int)) else ((parse l).1.1, (parse l).2.1, (parse l).2.2)

theorem dgN_all {l : List UInt8} (h : dgN l = l.length) : l.takeWhile dg = l := by
  rw [← dgN_take, h, List.take_length]
theorem parse_whole (l : List UInt8) (h : pt l = l.length) :
    ((parse l).1.1, (parse l).2.1, (parse l).2.2) = if dgN (l.drop (sg l)) = 0 then ((0 : Int), (11 : Int), ((sg l : Nat) : Int))
      else if valN (vals (l.drop (sg l))) ≤ big then ((if sg l = 1 then -((valN (vals (l.drop (sg l))) : Nat) : Int) else ((valN (vals (l.drop (sg l))) : Nat) : Int)), 0, 0) else (0, 12, 0) := by
  have hp : sg l + dgN (l.drop (sg l)) = l.length := h
  have hd : dgN (l.drop (sg l)) = (l.drop (sg l)).length := by rw [List.length_drop]; omega
  by_cases h0 : dgN (l.drop (sg l)) = 0
  · rw [if_pos h0]
    have hc : cut l = .bad (pt l) := by unfold cut; rw [if_pos (by unfold pt; omega)]
    rw [parse_bad hc]
    have : pt l = sg l := by unfold pt; omega
    rw [this]
  · rw [if_neg h0]
    have hc : cut l = .ok (decide (sg l = 1)) (l.drop (sg l)) [] := by
      unfold cut
      rw [if_neg (by unfold pt; omega), if_pos h, dgN_all hd]
    rw [parse_ok hc]
    simp only [List.append_nil, List.length_nil]
    generalize valN (vals (l.drop (sg l))) = n
    have e : decOf (decide (sg l = 1)) n ((0 : Nat) : Int) = if n ≤ big then some ((if sg l = 1 then -(n : Int) else (n : Int)), 0) else none := by
      unfold decOf
      rw [if_neg (by omega)]
      by_cases hn : n = 0
      · subst hn
        rw [if_pos rfl, if_pos (by unfold big; omega)]
        by_cases hs : sg l = 1 <;> simp [hs]
      · rw [if_neg hn, show ((0 : Nat) : Int).toNat = 0 from rfl, strip_id 0 n (Or.inl rfl)]
        by_cases hb : n ≤ big
        · rw [if_pos ⟨hb, by omega⟩, if_pos hb]
          by_cases hs : sg l = 1 <;> simp [hs]
        · rw [if_neg (fun h => hb h.1), if_neg hb]
    rw [e]
    by_cases hb : n ≤ big
    · rw [if_pos hb, if_pos hb]
    · rw [if_neg hb, if_neg hb]

theorem uint_bad {l : List UInt8} (h : dgN l = 0 ∨ dgN l < l.length) : uintO l = ((0 : Int), (11 : Int), ((dgN l : Nat) : Int)) := by unfold uintO; rw [if_pos h]
theorem uint_ok {l : List UInt8} (h0 : ¬ dgN l = 0) (h1 : ¬ dgN l < l.length) (h : valN (vals l) ≤ big) : uintO l = (((valN (vals l) : Nat) : Int), 0, 0) := by
  unfold uintO; rw [if_neg (fun e => e.elim h0 h1), if_pos h]
theorem uint_far {l : List UInt8} (h0 : ¬ dgN l = 0) (h1 : ¬ dgN l < l.length) (h : ¬ valN (vals l) ≤ big) : uintO l = (0, 12, 0) := by
  unfold uintO; rw [if_neg (fun e => e.elim h0 h1), if_neg h]
theorem whole_int (l : List UInt8) : wholeO l (sg l) = intO l := by
  unfold wholeO intO
  by_cases h : sg l + dgN (l.drop (sg l)) < l.length
  · rw [if_pos h]
    have : dgN (l.drop (sg l)) < (l.drop (sg l)).length := by rw [List.length_drop]; omega
    rw [uint_bad (Or.inr this), if_pos rfl]
    simp; omega
  · have hp : pt l = l.length := by have := pt_le l; unfold pt at this ⊢; omega
    rw [if_neg h, parse_whole l hp]
    have hn : ¬ dgN (l.drop (sg l)) < (l.drop (sg l)).length := by rw [List.length_drop]; omega
    by_cases h0 : dgN (l.drop (sg l)) = 0
    · rw [if_pos h0, uint_bad (Or.inl h0), if_pos rfl]
      simp [h0]
    · rw [if_neg h0]
      by_cases hb : valN (vals (l.drop (sg l))) ≤ big
      · rw [if_pos hb, uint_ok h0 hn hb]
        show _ = if (0 : Int) = 11 then _ else _
        rw [if_neg (show ¬ (0 : Int) = 11 by decide)]
      · rw [if_neg hb, uint_far h0 hn hb, if_neg (by simp)]
        simp
theorem sg_of_dg {l : List UInt8} (h : dgN l = l.length) : sg l = 0 := by
  rcases sg_cases l with ⟨r, rfl, _⟩ | ⟨h0, _⟩
  · rw [dgN_cons, if_neg (by decide)] at h; simp at h
  · exact h0
theorem whole_uint (l : List UInt8) : wholeO l 0 = uintO l := by
  unfold wholeO
  simp only [List.drop_zero, Nat.zero_add]
  by_cases h : dgN l < l.length
  · rw [if_pos h, uint_bad (Or.inr h)]
  · have hd : dgN l = l.length := by have := dgN_le l; omega
    have hs := sg_of_dg hd
    have hp : pt l = l.length := by unfold pt; rw [hs, List.drop_zero]; omega
    rw [if_neg h, parse_whole l hp, hs, List.drop_zero]
    by_cases h0 : dgN l = 0
    · rw [if_pos h0, uint_bad (Or.inl h0), h0]
    · rw [if_neg h0]
      by_cases hb : valN (vals l) ≤ big
      · rw [if_pos hb, uint_ok h0 h hb, if_neg (by omega)]
      · rw [if_neg hb, uint_far h0 h hb]

/-- times -/
def isT (x : Int) : Bool := decide (-1125899906842624 ≤ x) && decide (x ≤ 1125899906842624)
theorem isT_iff (x : Int) : isT x = true ↔ -1125899906842624 ≤ x ∧ x ≤ 1125899906842624 := by unfold isT; simp
def isU (u : Int) : Bool := decide (0 ≤ u) && decide (u < 4)
theorem isU_iff (u : Int) : isU u = true ↔ 0 ≤ u ∧ u < 4 := by unfold isU; simp
def timeO (o : Option Int) : Option Int := match o with | some t => if isT t = true then some t else none | none => none
def secO (m s : Int) : Option Int := timeO (scaledO m s 3)
def msO (n u : Int) : Option Int :=
  if isU u = true then (match decOf (decide (n < 0)) n.natAbs (3 * u) with | some (m, k) => secO m k | none => none) else none
def sOf (x : Int) : Option (Int × Nat) := if isT x = true then decOf (decide (x < 0)) x.natAbs 3 else none
def ofO (x u : Int) : Option Int :=
  match sOf x with | some (m, k) => if isU u = true then scaledO m k (3 * u) else none | none => none
def textO (x : Int) : List UInt8 := match sOf x with | some (m, k) => printL m k | none => []

theorem timeO_iff (o : Option Int) (t : Int) : timeO o = some t ↔ o = some t ∧ isT t = true := by
  unfold timeO
  cases o with
  | none => simp
  | some x =>
    by_cases h : isT x = true
    · simp only [if_pos h, Option.some.injEq]; constructor
      · rintro rfl; exact ⟨rfl, h⟩
      · exact fun e => e.1
    · simp only [if_neg h, Option.some.injEq]; constructor
      · intro e; cases e
      · rintro ⟨rfl, e⟩; exact absurd e h

/-- a number at p digits behind the point, with what it is -/
theorem decOf_num {n : Int} {p : Nat} {m : Int} {k : Nat} (h : decOf (decide (n < 0)) n.natAbs p = some (m, k)) :
    k ≤ p ∧ k ≤ 18 ∧ m * 10 ^ (p - k) = n ∧ goodD m k = true ∧ m.natAbs ≤ big := by
  obtain ⟨hg, hb, _, h0, h1⟩ := decOf_is h
  obtain ⟨v1, v2, v3⟩ := decOf_val h
  rw [Int.toNat_natCast] at v3
  refine ⟨by omega, v2, ?_, hg, hb⟩
  have hpos : (0 : Int) < 10 ^ (p - k) := pwI _
  have habs : (m * 10 ^ (p - k)).natAbs = n.natAbs := by
    rw [Int.natAbs_mul, Int.natAbs_pow]; exact v3
  by_cases hn : n = 0
  · subst hn
    obtain ⟨rfl, _⟩ := h0 rfl
    simp
  · obtain ⟨hm, hs⟩ := h1 (by omega)
    rcases Int.natAbs_eq_natAbs_iff.1 habs with e | e
    · exact e
    · exfalso
      by_cases hlt : n < 0
      · have hml : m < 0 := by
          have : decide (m < 0) = true := by rw [hs]; simpa using hlt
          simpa using this
        have : m * 10 ^ (p - k) < 0 := Int.mul_neg_of_neg_of_pos hml hpos
        omega
      · have hml : ¬ m < 0 := by
          have : decide (m < 0) = false := by rw [hs]; simpa using hlt
          simpa using this
        have : 0 ≤ m * 10 ^ (p - k) := Int.mul_nonneg (by omega) (by omega)
        omega
theorem good_last {m : Int} {k : Nat} (h : goodD m k = true) (hk : k ≠ 0) : ¬ m % 10 = 0 := by
  obtain ⟨_, _, _, h⟩ := (goodD_iff m k).1 h
  rcases h with h | h
  · omega
  · intro e; exact h (by rw [tmod_abs]; omega)
theorem dec_some (n : Int) (p : Nat) (hn : n.natAbs ≤ big) (hp : p ≤ 18) : ∃ m k, decOf (decide (n < 0)) n.natAbs p = some (m, k) := by
  obtain ⟨⟨m, k⟩, h⟩ := decOf_some (decide (n < 0)) n.natAbs p hn (by omega) (by omega)
  exact ⟨m, k, h⟩
theorem pw10 (i : Nat) : (10 : Int) ^ i ≠ 0 := by have := pwI i; omega
/-- the number at q digits, where it is whole there -/
theorem at_iff {n : Int} {p q : Nat} (hq : q ≤ 18) {m : Int} {k : Nat} (h : decOf (decide (n < 0)) n.natAbs p = some (m, k)) (t : Int) :
    scaledO m k q = some t ↔ t * 10 ^ p = n * 10 ^ q ∧ t.natAbs ≤ big := by
  obtain ⟨h1, h2, h3, h4, h5⟩ := decOf_num h
  unfold scaledO
  constructor
  · intro e
    split at e
    · rename_i c
      obtain ⟨_, c2, _, c4⟩ := c
      cases e
      have hkq : k ≤ q := by omega
      rw [show ((q : Int) - k).toNat = q - k by omega] at c4 ⊢
      refine ⟨?_, by rw [Int.natAbs_mul, Int.natAbs_pow]; exact c4⟩
      rw [← h3, show p = (p - k) + k by omega, Int.pow_add, show (p - k) + k - k = p - k by omega]
      rw [show (10 : Int) ^ q = 10 ^ (q - k) * 10 ^ k by rw [← Int.pow_add]; congr 1; omega]
      simp only [Int.mul_assoc, Int.mul_left_comm, Int.mul_comm]
    · cases e
  · rintro ⟨e, hb⟩
    -- t * 10^p = m * 10^(p-k) * 10^q
    have e2 : t * 10 ^ k = m * 10 ^ q := by
      have : (t * 10 ^ k) * 10 ^ (p - k) = (m * 10 ^ q) * 10 ^ (p - k) := by
        rw [Int.mul_assoc, ← Int.pow_add, show k + (p - k) = p by omega, e, ← h3]
        simp only [Int.mul_assoc, Int.mul_left_comm, Int.mul_comm]
      exact Int.eq_of_mul_eq_mul_right (pw10 _) this
    have hkq : k ≤ q := by
      refine Classical.byContradiction fun hno => ?_
      have e3 : t * 10 ^ (k - q) = m := by
        have : (t * 10 ^ (k - q)) * 10 ^ q = m * 10 ^ q := by
          rw [Int.mul_assoc, ← Int.pow_add, show k - q + q = k by omega, e2]
        exact Int.eq_of_mul_eq_mul_right (pw10 _) this
      refine good_last h4 (by omega) ?_
      rw [← e3, show k - q = (k - q - 1) + 1 by omega, Int.pow_succ, ← Int.mul_assoc]
      omega
    have e3 : t = m * 10 ^ (q - k) := by
      have : t * 10 ^ k = (m * 10 ^ (q - k)) * 10 ^ k := by
        rw [Int.mul_assoc, ← Int.pow_add, show q - k + k = q by omega, e2]
      exact Int.eq_of_mul_eq_mul_right (pw10 _) this
    rw [show ((q : Int) - k).toNat = q - k by omega, if_pos ⟨h4, by omega, by omega, by rw [e3, Int.natAbs_mul, Int.natAbs_pow] at hb; exact hb⟩, e3]

theorem isT_abs {t : Int} (h : isT t = true) : t.natAbs ≤ 1125899906842624 := by have := (isT_iff t).1 h; omega
/-- what Ms says: the time t with t / 10^3 s = n / 10^(3u) s -/
theorem msO_iff (n : Int) (u : Nat) (hu : u < 4) (h1 : -9223372036854775808 ≤ n) (h2 : n ≤ 9223372036854775807) (t : Int) : msO n u = some t ↔ t * 10 ^ (3 * u) = n * 1000 ∧ isT t = true := by
  unfold msO
  rw [if_pos ((isU_iff _).2 ⟨by omega, by omega⟩)]
  have e3 : (3 : Int) * (u : Int) = ((3 * u : Nat) : Int) := by omega
  rw [e3]
  by_cases hm : n = -9223372036854775808
  · subst hm
    have hd : decOf (decide ((-9223372036854775808 : Int) < 0)) (-9223372036854775808 : Int).natAbs ((3 * u : Nat) : Int) = none := by
      unfold decOf
      rw [if_neg (by omega), if_neg (by decide), Int.toNat_natCast, strip_id _ _ (Or.inr (by decide)), if_neg (fun h => absurd (show (-9223372036854775808 : Int).natAbs ≤ big from h.1) (by decide))]
    rw [hd]
    constructor
    · intro h; cases h
    · rintro ⟨h, ht⟩
      have := (isT_iff t).1 ht
      exfalso
      have : u = 0 ∨ u = 1 ∨ u = 2 ∨ u = 3 := by omega
      rcases this with rfl | rfl | rfl | rfl <;> simp at h <;> omega
  · obtain ⟨m, k, hd⟩ := dec_some n (3 * u) (by unfold big; omega) (by omega)
    rw [hd]
    show secO m k = some t ↔ _
    have hi := at_iff (q := 3) (by omega) hd t
    unfold secO
    rw [timeO_iff, show (3 : Int) = ((3 : Nat) : Int) from rfl, hi]
    constructor
    · rintro ⟨⟨a, _⟩, b⟩; exact ⟨a, b⟩
    · rintro ⟨a, b⟩; exact ⟨⟨a, by have := isT_abs b; unfold big; omega⟩, b⟩
theorem msO_none (n u : Int) (h : ¬ (0 ≤ u ∧ u < 4)) : msO n u = none := by unfold msO; rw [if_neg (fun e => h ((isU_iff u).1 e))]
theorem sOf_some {x : Int} (h : isT x = true) : ∃ m k, sOf x = some (m, k) ∧ decOf (decide (x < 0)) x.natAbs ((3 : Nat) : Int) = some (m, k) := by
  have := isT_abs h
  obtain ⟨m, k, hd⟩ := dec_some x 3 (by unfold big; omega) (by omega)
  exact ⟨m, k, by unfold sOf; rw [if_pos h]; exact hd, hd⟩
theorem sOf_none {x : Int} (h : isT x = false) : sOf x = none := by unfold sOf; rw [h]; rfl
/-- what Of says -/
theorem ofO_iff (x : Int) (u : Nat) (hu : u < 4) (t : Int) : ofO x u = some t ↔ isT x = true ∧ t * 1000 = x * 10 ^ (3 * u) ∧ t.natAbs ≤ big := by
  unfold ofO
  cases hx : isT x with
  | false => rw [sOf_none hx]; simp
  | true =>
    obtain ⟨m, k, h1, h2⟩ := sOf_some hx
    rw [h1]
    show (if isU (u : Int) = true then scaledO m k (3 * (u : Int)) else none) = some t ↔ _
    rw [if_pos ((isU_iff _).2 ⟨by omega, by omega⟩), show (3 : Int) * (u : Int) = ((3 * u : Nat) : Int) by omega, at_iff (by omega) h2 t]
    simp
theorem ofO_none (x u : Int) (h : isT x = false ∨ ¬ (0 ≤ u ∧ u < 4)) : ofO x u = none := by
  unfold ofO
  rcases h with h | h
  · rw [sOf_none h]
  · cases sOf x with
    | none => rfl
    | some p => obtain ⟨m, k⟩ := p; show (if isU u = true then scaledO m k (3 * u) else none) = none; rw [if_neg (fun e => h ((isU_iff u).1 e))]

/-- the reference's -/
def rmsO (n u : Int) : Option Int :=
  if u = 0 then timeO (if -1125899906842624 ≤ n ∧ n ≤ 1125899906842624 then some (n * 1000) else none)
  else if u = 1 then timeO (some n)
  else if u = 2 then timeO (if n.tmod 1000 = 0 then some (n.tdiv 1000) else none)
  else if u = 3 then timeO (if n.tmod 1000000 = 0 then some (n.tdiv 1000000) else none)
  else none
def rofO (x u : Int) : Option Int :=
  if isT x = true then
    if u = 0 then (if x.tmod 1000 = 0 then some (x.tdiv 1000) else none)
    else if u = 1 then some x
    else if u = 2 then some (x * 1000)
    else if u = 3 then (if -9223372036854 ≤ x ∧ x ≤ 9223372036854 then some (x * 1000000) else none)
    else none
  else none
theorem opt_ext {a b : Option Int} (h : ∀ t, a = some t ↔ b = some t) : a = b := by
  cases a with
  | some x => exact ((h x).1 rfl).symm
  | none =>
    cases b with
    | none => rfl
    | some y => exact (h y).2 rfl
theorem tdiv_iff (n t : Int) (d : Int) (hd : 0 < d) : (if n.tmod d = 0 then some (n.tdiv d) else none) = some t ↔ t * d = n := by
  by_cases h : n.tmod d = 0
  · rw [if_pos h]
    have h2 := Int.mul_tdiv_add_tmod n d
    rw [h, Int.add_zero] at h2
    constructor
    · intro e; cases e; rw [Int.mul_comm]; exact h2
    · intro e
      congr 1
      have : d * n.tdiv d = d * t := by rw [h2, Int.mul_comm d t, e]
      exact Int.eq_of_mul_eq_mul_left (by omega) this
  · rw [if_neg h]
    constructor
    · intro e; cases e
    · intro e; exfalso; rw [← e, Int.mul_tmod_left] at h; exact h rfl
theorem msO_ref (n u : Int) (h1 : -9223372036854775808 ≤ n) (h2 : n ≤ 9223372036854775807) : rmsO n u = msO n u := by
  by_cases hu : 0 ≤ u ∧ u < 4
  · obtain ⟨k, rfl⟩ : ∃ k : Nat, u = k := ⟨u.toNat, by omega⟩
    refine opt_ext fun t => ?_
    rw [msO_iff n k (by omega) h1 h2 t]
    have : k = 0 ∨ k = 1 ∨ k = 2 ∨ k = 3 := by omega
    unfold rmsO
    rcases this with rfl | rfl | rfl | rfl
    · rw [if_pos (by rfl), timeO_iff, isT_iff]
      split <;> simp <;> omega
    · rw [if_neg (by decide), if_pos (by rfl), timeO_iff, isT_iff]
      simp; omega
    · rw [if_neg (by decide), if_neg (by decide), if_pos (by rfl), timeO_iff, tdiv_iff _ _ _ (by decide), isT_iff]
      simp; omega
    · rw [if_neg (by decide), if_neg (by decide), if_neg (by decide), if_pos (by rfl), timeO_iff, tdiv_iff _ _ _ (by decide), isT_iff]
      simp; omega
  · rw [msO_none n u hu]
    unfold rmsO
    rw [if_neg (by omega), if_neg (by omega), if_neg (by omega), if_neg (by omega)]
theorem ofO_ref (x u : Int) : rofO x u = ofO x u := by
  cases hx : isT x with
  | false => rw [ofO_none x u (Or.inl hx)]; unfold rofO; rw [hx]; rfl
  | true =>
    have hb := (isT_iff x).1 hx
    by_cases hu : 0 ≤ u ∧ u < 4
    · obtain ⟨k, rfl⟩ : ∃ k : Nat, u = k := ⟨u.toNat, by omega⟩
      refine opt_ext fun t => ?_
      rw [ofO_iff x k (by omega) t]
      have : k = 0 ∨ k = 1 ∨ k = 2 ∨ k = 3 := by omega
      unfold rofO big
      rw [if_pos hx]
      rcases this with rfl | rfl | rfl | rfl
      · rw [if_pos (by rfl), tdiv_iff _ _ _ (by decide)]
        simp [hx]; omega
      · rw [if_neg (by decide), if_pos (by rfl)]
        simp [hx]; omega
      · rw [if_neg (by decide), if_neg (by decide), if_pos (by rfl)]
        simp [hx]; omega
      · rw [if_neg (by decide), if_neg (by decide), if_neg (by decide), if_pos (by rfl)]
        simp [hx]; omega
    · rw [ofO_none x u (Or.inr hu)]
      unfold rofO
      rw [if_pos hx, if_neg (by omega), if_neg (by omega), if_neg (by omega), if_neg (by omega)]
theorem msO_b {n u t : Int} (h : msO n u = some t) : -1125899906842624 ≤ t ∧ t ≤ 1125899906842624 := by
  unfold msO at h
  split at h
  · split at h
    · unfold secO at h; exact (isT_iff t).1 ((timeO_iff _ _).1 h).2
    · cases h
  · cases h
theorem ofO_b {x u t : Int} (h : ofO x u = some t) : -9223372036854775807 ≤ t ∧ t ≤ 9223372036854775807 := by
  unfold ofO at h
  split at h
  · split at h
    · unfold scaledO at h
      split at h
      · rename_i c; cases h
        have c4 := c.2.2.2
        rename_i m k _ _
        have c5 : (m * 10 ^ (3 * u - (k : Int)).toNat).natAbs ≤ big := by rw [Int.natAbs_mul, Int.natAbs_pow]; exact c4
        unfold big at c5; omega
      · cases h
    · cases h
  · cases h

end Go.Proofs.YtkmcjmpdmgdcoaaGreatDoor.Dc

/- Plain mathematics for the reference's decimals: a row's digits by their number; a text's digits, one behind the other. -/
set_option linter.unusedVariables false
set_option linter.unusedSimpArgs false
namespace Go.Proofs.YtkmcjmpdmgdcoaaGreatDoor.Dc

theorem val_at (l : List Nat) (h : ∀ d ∈ l, d ≤ 9) : ∀ i d, l[i]? = some d → d = dgt (valN l) (l.length - 1 - i) := by
  induction l with
  | nil => intro i d e; simp at e
  | cons x t ih =>
    intro i d e
    have hx := h x (by simp)
    have hl := valN_lt t (fun y hy => h y (by simp [hy]))
    rw [valN_cons]
    cases i with
    | zero =>
      rw [List.getElem?_cons_zero] at e
      cases e
      unfold dgt
      rw [show (x :: t).length - 1 - 0 = t.length by simp]
      rw [Nat.mul_comm, Nat.mul_add_div (Nat.pow_pos (by omega)), Nat.div_eq_of_lt hl]
      omega
    | succ i =>
      rw [List.getElem?_cons_succ] at e
      have hi : i < t.length := (List.getElem?_eq_some_iff.1 e).1
      have := ih (fun y hy => h y (by simp [hy])) i d e
      rw [this]
      unfold dgt
      rw [show (x :: t).length - 1 - (i + 1) = t.length - 1 - i by simp; omega]
      generalize hk : t.length - 1 - i = k at *
      have hk2 : t.length = k + 1 + i := by omega
      rw [hk2, show x * 10 ^ (k + 1 + i) = 10 ^ k * (10 * (x * 10 ^ i)) by rw [Nat.pow_add, Nat.pow_succ]; simp only [Nat.mul_assoc, Nat.mul_comm, Nat.mul_left_comm]]
      rw [Nat.mul_add_div (Nat.pow_pos (by omega))]
      omega

/-- a text that is one, put together of its parts -/
theorem cut_ok_text {l : List UInt8} {neg : Bool} {d e : List UInt8} (h : cut l = .ok neg d e) : l = sgn neg ++ d ++ dot e ∧ l.drop (sg l) = d ++ dot e ∧ neg = decide (sg l = 1) := by
  have hs : l = sgn (decide (sg l = 1)) ++ l.drop (sg l) := by
    have := (List.take_append_drop (sg l) l).symm
    rwa [take_sg] at this
  unfold cut at h
  split at h
  · cases h
  split at h
  · rename_i hp
    cases h
    have h1 := take_pt l
    rw [hp, List.take_of_length_le (Nat.le_refl _)] at h1
    have h2 : l.drop (sg l) = (l.drop (sg l)).takeWhile dg := (List.append_cancel_left (h1.symm.trans hs)).symm
    refine ⟨?_, ?_, rfl⟩
    · simp only [dot, if_pos, List.append_nil]; exact h1
    · simp only [dot, if_pos, List.append_nil]; exact h2
  split at h
  · cases h
  rename_i hq
  split at h
  · cases h
  · rename_i hr
    cases h
    have h46 : l[pt l]? = some 46 := by simpa using hq
    have h1 := take_en l h46
    have hlt : pt l < l.length := (List.getElem?_eq_some_iff.1 h46).1
    have hen := en_le l hlt
    rw [show en l = l.length by omega, List.take_of_length_le (Nat.le_refl _)] at h1
    have hne : (l.drop (pt l + 1)).takeWhile dg ≠ [] := fun e => hr (Or.inl (by unfold en dgN; rw [e]; rfl))
    have hdot : dot ((l.drop (pt l + 1)).takeWhile dg) = 46 :: (l.drop (pt l + 1)).takeWhile dg := by unfold dot; rw [if_neg hne]
    rw [hdot]
    refine ⟨h1, ?_, rfl⟩
    have h3 := hs.symm.trans h1
    rw [List.append_assoc] at h3
    exact List.append_cancel_left h3
theorem filter_dg {l : List UInt8} (h : allDg l) : l.filter dg = l := List.filter_eq_self.2 h
theorem cut_digits {l : List UInt8} {neg : Bool} {d e : List UInt8} (h : cut l = .ok neg d e) : (l.drop (sg l)).filter dg = d ++ e := by
  obtain ⟨hd, he, _⟩ := cut_ok h
  rw [(cut_ok_text h).2.1, List.filter_append, filter_dg hd]
  congr 1
  unfold dot
  split
  · rename_i h0; rw [h0]; rfl
  · rw [List.filter_cons, if_neg (by decide), filter_dg he]
/-- how many digits are behind the point: the reference's reckoning -/
theorem cut_back {l : List UInt8} {neg : Bool} {d e : List UInt8} (h : cut l = .ok neg d e) : (pt l = l.length ∧ e = []) ∨ (pt l < l.length ∧ l[pt l]? = some 46 ∧ en l = l.length ∧ e.length + pt l + 1 = en l ∧ e ≠ []) := by
  unfold cut at h
  split at h
  · cases h
  split at h
  · rename_i hp; cases h; exact Or.inl ⟨hp, rfl⟩
  split at h
  · cases h
  rename_i hq
  split at h
  · cases h
  · rename_i hr
    cases h
    have h46 : l[pt l]? = some 46 := by simpa using hq
    have hlt : pt l < l.length := (List.getElem?_eq_some_iff.1 h46).1
    have hen := en_le l hlt
    refine Or.inr ⟨hlt, h46, by omega, ?_, fun e => hr (Or.inl (by unfold en dgN; rw [e]; rfl))⟩
    unfold en dgN
    omega

/-- what is left to print, with the point ahead of the next digit, where it belongs -/
def bdr (n s k : Nat) : List UInt8 := if 0 < k ∧ k = s then 46 :: bd n s k else bd n s k
theorem bd_bdr (n s k : Nat) : bd n s (k + 1) = ch n k :: bdr n s k := rfl
theorem bdr_top (n s k : Nat) (h : s < k) : bdr n s k = bd n s k := by unfold bdr; rw [if_neg (by omega)]
theorem bdr_zero (n s : Nat) : bdr n s 0 = [] := by unfold bdr; rw [if_neg (by omega)]; rfl
theorem pad_val (j n : Nat) : valN (List.replicate j 0 ++ digs n) = n := by rw [valN_zeros, digs_val]
theorem pad_le (j n : Nat) : ∀ d ∈ List.replicate j 0 ++ digs n, d ≤ 9 := by
  intro d hd
  rcases List.mem_append.1 hd with h | h
  · obtain ⟨_, rfl⟩ := List.mem_replicate.1 h; omega
  · exact digs_le n d h
theorem valN_take_le (l : List Nat) (i : Nat) : valN (l.take i) ≤ valN l := by
  have h := valN_app (l.take i) (l.drop i)
  rw [List.take_append_drop] at h
  have : 0 < 10 ^ (l.drop i).length := Nat.pow_pos (by omega)
  have h2 : valN (l.take i) * 1 ≤ valN (l.take i) * 10 ^ (l.drop i).length := Nat.mul_le_mul_left _ this
  omega
theorem valN_take_step (l : List Nat) (i : Nat) (d : Nat) (h : l[i]? = some d) : valN (l.take (i + 1)) = 10 * valN (l.take i) + d := by
  obtain ⟨hi, rfl⟩ := List.getElem?_eq_some_iff.1 h
  rw [List.take_succ_eq_append_getElem hi, valN_snoc]

end Go.Proofs.YtkmcjmpdmgdcoaaGreatDoor.Dc
