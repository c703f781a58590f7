/- The texts DecPlain, DecPlainB, DecPlainC, SumPlain, StampPlain, one behind the other. -/

/- Plain mathematics: decimals: numbers by their digits, noughts taken off, texts taken apart. No program. -/
set_option linter.unusedVariables false
set_option linter.unusedSimpArgs false
namespace Go.Proofs.YtjeefgamkoeiaaaGreatDoor.Dc

/-! ### a number by its digits -/
def valN (l : List Nat) : Nat := l.foldl (fun n d => 10 * n + d) 0
theorem foldN (l : List Nat) : ∀ a, l.foldl (fun n d => 10 * n + d) a = a * 10 ^ l.length + valN l := by
  induction l with
  | nil => intro a; simp [valN]
  | cons d l ih =>
    intro a
    have h1 := ih (10 * a + d)
    have h2 := ih (10 * 0 + d)
    unfold valN at *
    simp only [List.foldl_cons, List.length_cons, Nat.pow_succ] at *
    rw [h1, h2]
    simp only [Nat.mul_zero, Nat.zero_add, Nat.add_mul]
    rw [Nat.add_assoc]
    congr 1
    rw [Nat.mul_comm 10 a, Nat.mul_assoc, Nat.mul_comm 10]
theorem valN_nil : valN [] = 0 := rfl
theorem valN_app (a b : List Nat) : valN (a ++ b) = valN a * 10 ^ b.length + valN b := by
  show (a ++ b).foldl _ 0 = _
  rw [List.foldl_append, foldN b]; rfl
theorem valN_cons (d : Nat) (l : List Nat) : valN (d :: l) = d * 10 ^ l.length + valN l := by
  have := valN_app [d] l
  simpa [valN] using this
theorem valN_snoc (l : List Nat) (d : Nat) : valN (l ++ [d]) = 10 * valN l + d := by
  rw [valN_app]; simp [valN]; omega
theorem valN_lt (l : List Nat) (h : ∀ d ∈ l, d ≤ 9) : valN l < 10 ^ l.length := by
  induction l with
  | nil => simp [valN]
  | cons d l ih =>
    rw [valN_cons, List.length_cons, Nat.pow_succ]
    have h1 := ih (fun x hx => h x (by simp [hx]))
    have h2 := h d (by simp)
    have h3 : d * 10 ^ l.length ≤ 9 * 10 ^ l.length := Nat.mul_le_mul_right _ h2
    omega
theorem valN_ge (d : Nat) (l : List Nat) (h : d ≠ 0) : 10 ^ l.length ≤ valN (d :: l) := by
  rw [valN_cons]
  have : 1 * 10 ^ l.length ≤ d * 10 ^ l.length := Nat.mul_le_mul_right _ (by omega)
  omega
theorem valN_zeros (n : Nat) (l : List Nat) : valN (List.replicate n 0 ++ l) = valN l := by
  induction n with
  | zero => simp
  | succ n ih => rw [List.replicate_succ, List.cons_append, valN_cons, ih]; simp
theorem valN_pad (l : List Nat) (n : Nat) : valN (l ++ List.replicate n 0) = valN l * 10 ^ n := by
  rw [valN_app]
  have := valN_zeros n []
  simp [valN] at this
  simp [valN, this]

/-- the digits of a number, the first one first; those of 0: none -/
def digs (n : Nat) : List Nat := if h : n = 0 then [] else digs (n / 10) ++ [n % 10]
termination_by n
decreasing_by omega
theorem digs_zero : digs 0 = [] := by unfold digs; simp
theorem digs_pos {n : Nat} (h : n ≠ 0) : digs n = digs (n / 10) ++ [n % 10] := by rw [digs]; simp [h]
theorem digs_le (n : Nat) : ∀ d ∈ digs n, d ≤ 9 := by
  induction n using Nat.strongRecOn with
  | ind n ih =>
    by_cases h : n = 0
    · subst h; rw [digs_zero]; simp
    · rw [digs_pos h]
      intro d hd
      rcases List.mem_append.1 hd with hd | hd
      · exact ih (n / 10) (by omega) d hd
      · obtain rfl : d = n % 10 := by simpa using hd
        omega
theorem digs_val (n : Nat) : valN (digs n) = n := by
  induction n using Nat.strongRecOn with
  | ind n ih =>
    by_cases h : n = 0
    · subst h; rw [digs_zero]; rfl
    · rw [digs_pos h, valN_snoc, ih (n / 10) (by omega)]; omega
theorem digs_head (n : Nat) : ∀ d l, digs n = d :: l → d ≠ 0 := by
  induction n using Nat.strongRecOn with
  | ind n ih =>
    by_cases h : n = 0
    · subst h; rw [digs_zero]; intro d l e; cases e
    · rw [digs_pos h]
      intro d l e
      by_cases h0 : n / 10 = 0
      · rw [h0, digs_zero] at e
        simp at e
        omega
      · cases hd : digs (n / 10) with
        | nil => have := digs_val (n / 10); rw [hd, valN_nil] at this; omega
        | cons x xs =>
          rw [hd] at e
          simp at e
          rw [← e.1]
          exact ih (n / 10) (by omega) x xs hd
theorem digs_len_le {n k : Nat} (h : n < 10 ^ k) : (digs n).length ≤ k := by
  induction k generalizing n with
  | zero => obtain rfl : n = 0 := by simpa using h
            rw [digs_zero]; simp
  | succ k ih =>
    by_cases h0 : n = 0
    · subst h0; rw [digs_zero]; simp
    · rw [digs_pos h0, List.length_append]
      have := ih (n := n / 10) (by rw [Nat.pow_succ] at h; omega)
      simp; omega
theorem digs_lt (n : Nat) : n < 10 ^ (digs n).length := by
  have := valN_lt (digs n) (digs_le n)
  rwa [digs_val] at this
theorem digs_ne {n : Nat} (h : n ≠ 0) : digs n ≠ [] := by
  intro e; have := digs_val n; rw [e, valN_nil] at this; exact h this.symm

/-- a row of digits without a nought ahead is its number's -/
theorem digs_of_head (l : List Nat) (h9 : ∀ d ∈ l, d ≤ 9) (hh : ∀ d r, l = d :: r → d ≠ 0) : digs (valN l) = l := by
  induction hn : l.length generalizing l with
  | zero => obtain rfl := List.eq_nil_of_length_eq_zero hn
            exact digs_zero
  | succ n ih =>
    have hne : l ≠ [] := by intro e; subst e; simp at hn
    obtain ⟨i, d, rfl⟩ : ∃ i d, l = i ++ [d] := ⟨l.dropLast, l.getLast hne, (List.dropLast_concat_getLast hne).symm⟩
    have hd : d ≤ 9 := h9 d (by simp)
    rw [valN_snoc]
    by_cases hi : i = []
    · subst hi
      have : d ≠ 0 := hh d [] rfl
      rw [valN_nil, digs_pos (by omega), show (10 * 0 + d) / 10 = 0 by omega, show (10 * 0 + d) % 10 = d by omega, digs_zero]
    · have hi2 := ih i (fun x hx => h9 x (by simp [hx])) (fun x r e => hh x (r ++ [d]) (by rw [e]; rfl)) (by simp at hn; omega)
      have hz : valN i ≠ 0 := by
        intro e; rw [e, digs_zero] at hi2; exact hi hi2.symm
      rw [digs_pos (by omega), show (10 * valN i + d) / 10 = valN i by omega, show (10 * valN i + d) % 10 = d by omega, hi2]

/-! ### which of two is greater, digit by digit -/
/-- of two rows of as many digits -/
def lexN : List Nat → List Nat → Int
  | a :: l, b :: r => if a < b then -1 else if b < a then 1 else lexN l r
  | _, _ => 0
def cmpN (l r : List Nat) : Int := if l.length ≠ r.length then (if l.length < r.length then -1 else 1) else lexN l r
theorem lexN_val : ∀ (l r : List Nat), l.length = r.length → (∀ d ∈ l, d ≤ 9) → (∀ d ∈ r, d ≤ 9) → lexN l r = (if valN l < valN r then -1 else if valN r < valN l then 1 else 0)
  | [], [], _, _, _ => rfl
  | [], _ :: _, h, _, _ => by simp at h
  | _ :: _, [], h, _, _ => by simp at h
  | a :: l, b :: r, h, ha, hb => by
    have hl : l.length = r.length := by simpa using h
    have la := valN_lt l (fun d hd => ha d (by simp [hd]))
    have lb := valN_lt r (fun d hd => hb d (by simp [hd]))
    have ih := lexN_val l r hl (fun d hd => ha d (by simp [hd])) (fun d hd => hb d (by simp [hd]))
    rw [valN_cons, valN_cons, lexN, hl]
    rw [hl] at la
    generalize 10 ^ r.length = p at *
    by_cases h1 : a < b
    · rw [if_pos h1]
      have : (a + 1) * p ≤ b * p := Nat.mul_le_mul_right _ h1
      rw [Nat.add_mul] at this
      rw [if_pos (by omega)]
    · rw [if_neg h1]
      by_cases h2 : b < a
      · rw [if_pos h2]
        have : (b + 1) * p ≤ a * p := Nat.mul_le_mul_right _ h2
        rw [Nat.add_mul] at this
        rw [if_neg (by omega), if_pos (by omega)]
      · rw [if_neg h2, ih]
        obtain rfl : a = b := by omega
        by_cases h3 : valN l < valN r
        · rw [if_pos h3, if_pos (show a * p + valN l < a * p + valN r by omega)]
        · rw [if_neg h3, if_neg (show ¬ a * p + valN l < a * p + valN r by omega)]
          by_cases h4 : valN r < valN l
          · rw [if_pos h4, if_pos (show a * p + valN r < a * p + valN l by omega)]
          · rw [if_neg h4, if_neg (show ¬ a * p + valN r < a * p + valN l by omega)]
theorem cmpN_val (l r : List Nat) (ha : ∀ d ∈ l, d ≤ 9) (hb : ∀ d ∈ r, d ≤ 9) (h1 : ∀ d t, l = d :: t → d ≠ 0) (h2 : ∀ d t, r = d :: t → d ≠ 0) :
    cmpN l r = (if valN l < valN r then -1 else if valN r < valN l then 1 else 0) := by
  unfold cmpN
  by_cases h : l.length = r.length
  · rw [if_neg (by simpa using h), lexN_val l r h ha hb]
  · rw [if_pos h]
    by_cases h3 : l.length < r.length
    · rw [if_pos h3]
      have := valN_lt l ha
      cases r with
      | nil => simp at h3
      | cons d t =>
        have h4 := valN_ge d t (h2 d t rfl)
        have h5 : 10 ^ l.length ≤ 10 ^ t.length := Nat.pow_le_pow_right (by omega) (by simp at h3; omega)
        rw [if_pos (by omega)]
    · rw [if_neg h3]
      have := valN_lt r hb
      cases l with
      | nil => simp at h h3; exact absurd (by rw [h3]; rfl) h
      | cons d t =>
        have h4 := valN_ge d t (h1 d t rfl)
        have h5 : 10 ^ r.length ≤ 10 ^ t.length := Nat.pow_le_pow_right (by omega) (by simp at h h3; omega)
        rw [if_neg (by omega), if_pos (by omega)]

/-! ### noughts behind the point taken off -/
/-- of a number with s digits behind the point: as few as need be -/
def strip : Nat → Nat → Nat × Nat
  | 0, n => (n, 0)
  | s + 1, n => if n % 10 = 0 then strip s (n / 10) else (n, s + 1)
theorem strip_id (s n : Nat) (h : s = 0 ∨ n % 10 ≠ 0) : strip s n = (n, s) := by
  cases s with
  | zero => rfl
  | succ s => rw [strip, if_neg (by omega)]
theorem strip_step (s n : Nat) (h : n % 10 = 0) : strip (s + 1) n = strip s (n / 10) := by rw [strip, if_pos h]
theorem strip_pad (s n k : Nat) : strip (s + k) (n * 10 ^ k) = strip s n := by
  induction k with
  | zero => simp
  | succ k ih => rw [← Nat.add_assoc, Nat.pow_succ, ← Nat.mul_assoc, strip_step _ _ (by omega), Nat.mul_div_cancel _ (by omega), ih]
theorem strip_is (s n : Nat) : (strip s n).2 ≤ s ∧ (strip s n).1 * 10 ^ (s - (strip s n).2) = n ∧ ((strip s n).2 = 0 ∨ (strip s n).1 % 10 ≠ 0) := by
  induction s generalizing n with
  | zero => simp [strip]
  | succ s ih =>
    rw [strip]
    split
    · rename_i h
      obtain ⟨a, b, c⟩ := ih (n / 10)
      refine ⟨by omega, ?_, c⟩
      rw [show s + 1 - (strip s (n / 10)).2 = s - (strip s (n / 10)).2 + 1 by omega, Nat.pow_succ, ← Nat.mul_assoc, b]
      omega
    · rename_i h
      exact ⟨Nat.le_refl _, by simp, Or.inr h⟩
theorem strip_le (s n : Nat) : (strip s n).1 ≤ n := by
  obtain ⟨_, h, _⟩ := strip_is s n
  have : 0 < 10 ^ (s - (strip s n).2) := Nat.pow_pos (by omega)
  generalize 10 ^ (s - (strip s n).2) = p at *
  calc (strip s n).1 = (strip s n).1 * 1 := by omega
    _ ≤ (strip s n).1 * p := Nat.mul_le_mul_left _ this
    _ = n := h
theorem strip_pos (s n : Nat) (h : n ≠ 0) : (strip s n).1 ≠ 0 := by
  intro e
  obtain ⟨_, h2, _⟩ := strip_is s n
  rw [e] at h2; simp at h2; exact h h2.symm

def big : Nat := 9223372036854775807
/-- the decimal of a sign, a number, how many of its digits are behind the point -/
def decOf (neg : Bool) (n : Nat) (s : Int) : Option (Int × Nat) :=
  if s < 0 then none
  else if n = 0 then some (0, 0)
  else if (strip s.toNat n).1 ≤ big ∧ (strip s.toNat n).2 ≤ 18 then some (if neg then -((strip s.toNat n).1 : Int) else ((strip s.toNat n).1 : Int), (strip s.toNat n).2) else none
def goodD (m s : Int) : Bool := decide (0 ≤ s) && decide (s ≤ 18) && decide (m ≠ -9223372036854775808) && (decide (s = 0) || decide (m.tmod 10 ≠ 0))
theorem goodD_iff (m s : Int) : goodD m s = true ↔ 0 ≤ s ∧ s ≤ 18 ∧ m ≠ -9223372036854775808 ∧ (s = 0 ∨ m.tmod 10 ≠ 0) := by
  unfold goodD
  simp [and_assoc]
theorem tmod_abs (m : Int) : m.tmod 10 = 0 ↔ m.natAbs % 10 = 0 := by
  obtain ⟨n, rfl | rfl⟩ := m.eq_nat_or_neg
  · rw [show ((n : Int)).tmod 10 = ((n % 10 : Nat) : Int) from rfl, Int.natAbs_natCast]; omega
  · rw [Int.neg_tmod, show ((n : Int)).tmod 10 = ((n % 10 : Nat) : Int) from rfl, Int.natAbs_neg, Int.natAbs_natCast]; omega
theorem tdiv_abs (m : Int) : (m.tdiv 10).natAbs = m.natAbs / 10 := by
  rw [Int.natAbs_tdiv]; rfl
theorem tdiv_sign (m : Int) (h : m.tmod 10 = 0) (h0 : m ≠ 0) : m.tdiv 10 ≠ 0 ∧ (m.tdiv 10 < 0 ↔ m < 0) := by
  have e := Int.tmod_add_mul_tdiv m 10
  rw [h] at e
  omega
/-- what is in its one form stays -/
theorem decOf_good (m s : Int) (hm : m.natAbs ≤ big) (h : goodD m s = true) : decOf (decide (m < 0)) m.natAbs s = some (m, s.toNat) := by
  obtain ⟨h0, h1, h2, h3⟩ := (goodD_iff m s).1 h
  unfold decOf
  rw [if_neg (by omega)]
  have hz : s = 0 ∨ m.natAbs % 10 ≠ 0 := h3.imp id (fun h e => h ((tmod_abs m).2 e))
  by_cases hm0 : m = 0
  · subst hm0
    rcases hz with rfl | hz
    · rfl
    · simp at hz
  · rw [if_neg (by omega), strip_id _ _ (hz.imp (by omega) id)]
    rw [if_pos ⟨hm, by show s.toNat ≤ 18; omega⟩]
    by_cases hn : m < 0
    · simp [hn]; omega
    · simp [hn]; omega
/-- what comes of it is in its one form, and that number -/
theorem decOf_is {neg : Bool} {n : Nat} {s : Int} {m : Int} {k : Nat} (h : decOf neg n s = some (m, k)) : goodD m k = true ∧ m.natAbs ≤ big ∧ 0 ≤ s ∧ (n = 0 → m = 0 ∧ k = 0) ∧ (n ≠ 0 → m.natAbs ≠ 0 ∧ decide (m < 0) = neg) := by
  unfold decOf at h
  split at h
  · cases h
  rename_i hs
  split at h
  · rename_i hn
    cases h
    exact ⟨by decide, by decide, by omega, fun _ => ⟨rfl, rfl⟩, fun e => absurd hn e⟩
  · rename_i hn
    split at h
    · rename_i hb
      have hp := strip_pos s.toNat n hn
      obtain ⟨_, _, h3⟩ := strip_is s.toNat n
      generalize strip s.toNat n = r at *
      simp only [Option.some.injEq, Prod.mk.injEq] at h
      obtain ⟨rfl, rfl⟩ := h
      have habs : (if neg = true then -(r.1 : Int) else (r.1 : Int)).natAbs = r.1 := by split <;> omega
      unfold big at hb
      refine ⟨(goodD_iff _ _).2 ⟨by omega, by omega, ?_, ?_⟩, by rw [habs]; exact hb.1, by omega, fun e => absurd e hn, fun _ => ⟨by rw [habs]; exact hp, ?_⟩⟩
      · split <;> omega
      · refine h3.imp (by omega) (fun h e => h ?_)
        have := (tmod_abs _).1 e
        rwa [habs] at this
      · cases neg
        · simp
        · simp; omega
    · cases h
/-- of whatever is no greater than may be there is one -/
theorem decOf_some (neg : Bool) (n : Nat) (s : Int) (hn : n ≤ big) (h0 : 0 ≤ s) (h1 : s ≤ 18) : ∃ r, decOf neg n s = some r := by
  unfold decOf
  rw [if_neg (by omega)]
  split
  · exact ⟨_, rfl⟩
  · have h2 := strip_le s.toNat n
    have h3 := (strip_is s.toNat n).1
    rw [if_pos ⟨by omega, by omega⟩]
    exact ⟨_, rfl⟩
theorem decOf_pad (neg : Bool) (n s k : Nat) : decOf neg (n * 10 ^ k) ((s + k : Nat) : Int) = decOf neg n (s : Int) := by
  unfold decOf
  have : 0 < 10 ^ k := Nat.pow_pos (by omega)
  by_cases hn : n = 0
  · subst hn
    rw [Nat.zero_mul, if_neg (show ¬ ((s + k : Nat) : Int) < 0 by omega), if_neg (show ¬ (s : Int) < 0 by omega), if_pos rfl, if_pos rfl]
  · have hne : n * 10 ^ k ≠ 0 := Nat.mul_ne_zero hn (by omega)
    rw [if_neg (show ¬ ((s + k : Nat) : Int) < 0 by omega), if_neg (show ¬ (s : Int) < 0 by omega), if_neg hne, if_neg hn, Int.toNat_natCast, Int.toNat_natCast, strip_pad]
/-- a number with its noughts off is told as the number -/
theorem decOf_strip (neg : Bool) (m : Int) (s : Nat) (n0 s0 : Nat) (h : strip s m.natAbs = strip s0 n0) (hs : m.natAbs = 0 ↔ n0 = 0) : decOf neg m.natAbs s = decOf neg n0 s0 := by
  unfold decOf
  rw [if_neg (show ¬ (s : Int) < 0 by omega), if_neg (show ¬ (s0 : Int) < 0 by omega), Int.toNat_natCast, Int.toNat_natCast, h]
  by_cases hn : n0 = 0
  · rw [if_pos (hs.2 hn), if_pos hn]
  · rw [if_neg (fun e => hn (hs.1 e)), if_neg hn]

end Go.Proofs.YtjeefgamkoeiaaaGreatDoor.Dc

/- Plain mathematics: the texts of decimals, taken apart and put together. No program. -/
set_option linter.unusedVariables false
set_option linter.unusedSimpArgs false
namespace Go.Proofs.YtjeefgamkoeiaaaGreatDoor.Dc

def dg (c : UInt8) : Bool := decide (48 ≤ c.toNat) && decide (c.toNat ≤ 57)
/-- how many digits a text begins with -/
def dgN (l : List UInt8) : Nat := (l.takeWhile dg).length
/-! ### a text taken apart -/
/-- how many bytes of sign -/
def sg (l : List UInt8) : Nat := match l with | 45 :: _ => 1 | _ => 0
/-- where the digits ahead of the point end; where those behind it end -/
def pt (l : List UInt8) : Nat := sg l + dgN (l.drop (sg l))
def en (l : List UInt8) : Nat := pt l + 1 + dgN (l.drop (pt l + 1))
/-- what a text is: none, and how far it may be one; or its sign, its digits ahead of and behind the point -/
inductive Cut where
  | bad (n : Nat)
  | ok (neg : Bool) (d e : List UInt8)
def cut (l : List UInt8) : Cut :=
  if pt l = sg l then .bad (pt l)
  else if pt l = l.length then .ok (decide (sg l = 1)) ((l.drop (sg l)).takeWhile dg) []
  else if l[pt l]? ≠ some 46 then .bad (pt l)
  else if en l = pt l + 1 ∨ en l < l.length then .bad (en l)
  else .ok (decide (sg l = 1)) ((l.drop (sg l)).takeWhile dg) ((l.drop (pt l + 1)).takeWhile dg)
def dot (e : List UInt8) : List UInt8 := if e = [] then [] else 46 :: e
/-! ### where a text can't go on -/
end Go.Proofs.YtjeefgamkoeiaaaGreatDoor.Dc

/- Plain mathematics: noughts taken off texts; a decimal's own text. No program. -/
set_option linter.unusedVariables false
set_option linter.unusedSimpArgs false
namespace Go.Proofs.YtjeefgamkoeiaaaGreatDoor.Dc

/-! ### a byte taken off a text's ends -/
/-! ### the number of a text's digits -/
/-! ### a decimal's text -/
def dgt (n i : Nat) : Nat := n / 10 ^ i % 10
def ch (n i : Nat) : UInt8 := UInt8.ofNat (48 + dgt n i)
def dh (n s : Nat) : Nat → List UInt8
  | 0 => []
  | j + 1 => ch n (s + j) :: dh n s j
theorem digs_small {n : Nat} (h : n ≤ big) : (digs n).length ≤ 19 := digs_len_le (by unfold big at h; omega)
end Go.Proofs.YtjeefgamkoeiaaaGreatDoor.Dc

/- Plain mathematics: numbers by their digits, the last one first: sums, differences, products, quotients, column by column. No program. -/
set_option linter.unusedVariables false
set_option linter.unusedSimpArgs false
namespace Go.Proofs.YtjeefgamkoeiaaaGreatDoor.Dc

theorem pw (i : Nat) : 0 < 10 ^ i := Nat.pow_pos (by omega)
theorem div_step (n i : Nat) : n / 10 ^ i = 10 * (n / 10 ^ (i + 1)) + dgt n i := by
  unfold dgt
  rw [Nat.pow_succ, ← Nat.div_div_eq_div_mul]; omega
theorem dgt_zero_of_lt {n i : Nat} (h : n < 10 ^ i) : dgt n i = 0 := by unfold dgt; rw [Nat.div_eq_of_lt h]
theorem dgt_of_le {n i k : Nat} (h : n < 10 ^ i) (hk : i ≤ k) : dgt n k = 0 := dgt_zero_of_lt (Nat.lt_of_lt_of_le h (Nat.pow_le_pow_right (by omega) hk))
theorem lt_pow_of_dgts {n k : Nat} (m : Nat) (h : n < 10 ^ (k + m)) (h0 : ∀ i, k ≤ i → i < k + m → dgt n i = 0) : n < 10 ^ k := by
  induction m with
  | zero => exact h
  | succ m ih =>
    refine ih ?_ (fun i h1 h2 => h0 i h1 (by omega))
    have h1 := h0 (k + m) (by omega) (by omega)
    have h2 := div_step n (k + m)
    rw [h1, Nat.div_eq_of_lt (show n < 10 ^ (k + m + 1) from h)] at h2
    rcases Nat.div_eq_zero_iff.1 h2 with h3 | h3
    · have := pw (k + m); omega
    · exact h3
/-- a digit moved up -/
theorem dgt_up (n u i : Nat) : dgt (n * 10 ^ u) i = if u ≤ i then dgt n (i - u) else 0 := by
  unfold dgt
  split
  · rename_i h
    obtain ⟨j, rfl⟩ : ∃ j, i = u + j := ⟨i - u, by omega⟩
    rw [Nat.pow_add, ← Nat.div_div_eq_div_mul, Nat.mul_div_cancel _ (pw u), show u + j - u = j by omega]
  · rename_i h
    obtain ⟨j, rfl⟩ : ∃ j, u = i + 1 + j := ⟨u - i - 1, by omega⟩
    rw [show n * 10 ^ (i + 1 + j) = (n * 10 ^ j * 10) * 10 ^ i by rw [show i + 1 + j = j + 1 + i by omega, Nat.pow_add, Nat.pow_succ]; simp only [Nat.mul_assoc], Nat.mul_div_cancel _ (pw i)]
    omega
/-! ### one column -/
/-! ### sums -/
/-! ### differences -/
/-! ### products -/
/-! ### quotients -/
/-! ### which of two is greater -/
def ord3 (x y : Int) : Int := if x < y then -1 else if y < x then 1 else 0
theorem ord3_lt {x y : Int} (h : x < y) : ord3 x y = -1 := by unfold ord3; rw [if_pos h]
theorem ord3_gt {x y : Int} (h : y < x) : ord3 x y = 1 := by unfold ord3; rw [if_neg (by omega), if_pos h]
theorem ord3_eq {x y : Int} (h : x = y) : ord3 x y = 0 := by unfold ord3; rw [if_neg (by omega), if_neg (by omega)]
theorem ord3_cases (x y : Int) : (x < y ∧ ord3 x y = -1) ∨ (y < x ∧ ord3 x y = 1) ∨ (x = y ∧ ord3 x y = 0) := by
  rcases Int.lt_trichotomy x y with h | h | h
  · exact Or.inl ⟨h, ord3_lt h⟩
  · exact Or.inr (Or.inr ⟨h, ord3_eq h⟩)
  · exact Or.inr (Or.inl ⟨h, ord3_gt h⟩)
theorem ord_lt_of_dgt {x y i : Nat} (he : x / 10 ^ (i + 1) = y / 10 ^ (i + 1)) (h : dgt x i < dgt y i) : x < y := by
  have h1 := div_step x i
  have h2 := div_step y i
  by_cases hc : x < y
  · exact hc
  · have := Nat.div_le_div_right (c := 10 ^ i) (show y ≤ x by omega)
    omega
theorem ord_eq_of_dgt {x y i : Nat} (he : x / 10 ^ (i + 1) = y / 10 ^ (i + 1)) (h : dgt x i = dgt y i) : x / 10 ^ i = y / 10 ^ i := by
  rw [div_step x i, div_step y i, he, h]

/-! ### decimals as whole numbers at the greatest scale -/
def lev (m s : Int) : Nat := m.natAbs * 10 ^ (18 - s).toNat
def zv (m s : Int) : Int := m * 10 ^ (18 - s).toNat
theorem zv_abs (m s : Int) : (zv m s).natAbs = lev m s := by
  unfold zv lev
  rw [Int.natAbs_mul, Int.natAbs_pow]; rfl
theorem pwI (i : Nat) : (0 : Int) < 10 ^ i := Int.pow_pos (by omega)
theorem zv_neg (m s : Int) : zv m s < 0 ↔ m < 0 := by
  unfold zv
  have := pwI (18 - s).toNat
  constructor
  · intro h
    by_cases hm : m < 0
    · exact hm
    · have := Int.mul_nonneg (show 0 ≤ m by omega) (Int.le_of_lt this); omega
  · intro h
    exact Int.mul_neg_of_neg_of_pos h this
theorem zv_zero (s : Int) : zv 0 s = 0 := by unfold zv; simp
theorem lev_zero {m s : Int} : lev m s = 0 ↔ m = 0 := by
  unfold lev
  have := pw (18 - s).toNat
  constructor
  · intro h
    rcases Nat.mul_eq_zero.1 h with h | h <;> omega
  · rintro rfl; simp
theorem zv_is (m s : Int) : zv m s = if m < 0 then -(lev m s : Int) else (lev m s : Int) := by
  have h1 := zv_abs m s
  have h2 := zv_neg m s
  split <;> omega
theorem lev_lt {m s : Int} (hm : m.natAbs ≤ big) (hs : 0 ≤ s) : lev m s < 10 ^ 37 := by
  unfold lev
  have h1 : (10 : Nat) ^ (18 - s).toNat ≤ 10 ^ 18 := Nat.pow_le_pow_right (by omega) (by omega)
  have h2 : m.natAbs * 10 ^ (18 - s).toNat ≤ big * 10 ^ 18 := Nat.mul_le_mul hm h1
  unfold big at h2
  omega

def decI (z : Int) : Option (Int × Nat) := decOf (decide (z < 0)) z.natAbs 18
theorem decOf_val {neg : Bool} {n : Nat} {s m : Int} {k : Nat} (h : decOf neg n s = some (m, k)) : (k : Int) ≤ s ∧ k ≤ 18 ∧ m.natAbs * 10 ^ (s.toNat - k) = n := by
  unfold decOf at h
  split at h
  · cases h
  rename_i hs
  split at h
  · rename_i hn
    cases h
    exact ⟨by omega, by omega, by rw [hn]; simp⟩
  · split at h
    · rename_i hb
      obtain ⟨h1, h2, _⟩ := strip_is s.toNat n
      generalize strip s.toNat n = r at *
      simp only [Option.some.injEq, Prod.mk.injEq] at h
      obtain ⟨rfl, rfl⟩ := h
      have habs : (if neg = true then -(r.1 : Int) else (r.1 : Int)).natAbs = r.1 := by split <;> omega
      exact ⟨by omega, hb.2, by rw [habs]; exact h2⟩
    · cases h
theorem decI_good {m s : Int} (hm : m.natAbs ≤ big) (h : goodD m s = true) : decI (zv m s) = some (m, s.toNat) := by
  obtain ⟨h0, h1, _⟩ := (goodD_iff m s).1 h
  have e := decOf_good m s hm h
  have hp := decOf_pad (decide (m < 0)) m.natAbs s.toNat (18 - s).toNat
  unfold decI
  rw [zv_abs, decide_eq_decide.2 (zv_neg m s)]
  unfold lev
  rw [show ((s.toNat + (18 - s).toNat : Nat) : Int) = 18 by omega] at hp
  rw [hp, show ((s.toNat : Nat) : Int) = s by omega, e]
theorem good_inj {m s n t : Int} (h1 : goodD m s = true) (h2 : goodD n t = true) (k1 : m.natAbs ≤ big) (k2 : n.natAbs ≤ big) (h : zv m s = zv n t) : m = n ∧ s = t := by
  have e1 := decI_good k1 h1
  rw [h, decI_good k2 h2] at e1
  simp only [Option.some.injEq, Prod.mk.injEq] at e1
  have := ((goodD_iff m s).1 h1).1
  have := ((goodD_iff n t).1 h2).1
  exact ⟨e1.1.symm, by omega⟩
/-! ### what the calls answer -/
def scaledO (m s k : Int) : Option Int :=
  if goodD m s = true ∧ s ≤ k ∧ k ≤ 18 ∧ m.natAbs * 10 ^ (k - s).toNat ≤ big then some (m * 10 ^ (k - s).toNat) else none
/-- what is not valid counts as 0 -/
def orZ (m s : Int) : Int × Int := if goodD m s = true then (m, s) else (0, 0)
def cmpO (m s n t : Int) : Int := ord3 (zv (orZ m s).1 (orZ m s).2) (zv (orZ n t).1 (orZ n t).2)
theorem orZ_good {m s : Int} (h : goodD m s = true) : orZ m s = (m, s) := by unfold orZ; rw [if_pos h]
theorem orZ_bad {m s : Int} (h : goodD m s = false) : orZ m s = (0, 0) := by unfold orZ; rw [if_neg (by simp [h])]
theorem big_of {m s : Int} (h : goodD m s = true) (h1 : -9223372036854775808 ≤ m) (h2 : m ≤ 9223372036854775807) : m.natAbs ≤ big := by
  have := ((goodD_iff m s).1 h).2.2.1
  unfold big; omega

end Go.Proofs.YtjeefgamkoeiaaaGreatDoor.Dc

/- Whole numbers and times as plain functions; what package stamp and the reference say of them is the same. -/
set_option maxRecDepth 100000
set_option linter.unusedVariables false
set_option linter.unusedSimpArgs false
namespace Go.Proofs.YtjeefgamkoeiaaaGreatDoor.Dc

/-- times -/
def isT (x : Int) : Bool := decide (-1125899906842624 ≤ x) && decide (x ≤ 1125899906842624)
theorem isT_iff (x : Int) : isT x = true ↔ -1125899906842624 ≤ x ∧ x ≤ 1125899906842624 := by unfold isT; simp
def isU (u : Int) : Bool := decide (0 ≤ u) && decide (u < 4)
theorem isU_iff (u : Int) : isU u = true ↔ 0 ≤ u ∧ u < 4 := by unfold isU; simp
def timeO (o : Option Int) : Option Int := match o with | some t => if isT t = true then some t else none | none => none
def secO (m s : Int) : Option Int := timeO (scaledO m s 3)
def msO (n u : Int) : Option Int :=
  if isU u = true then (match decOf (decide (n < 0)) n.natAbs (3 * u) with | some (m, k) => secO m k | none => none) else none
theorem timeO_iff (o : Option Int) (t : Int) : timeO o = some t ↔ o = some t ∧ isT t = true := by
  unfold timeO
  cases o with
  | none => simp
  | some x =>
    by_cases h : isT x = true
    · simp only [if_pos h, Option.some.injEq]; constructor
      · rintro rfl; exact ⟨rfl, h⟩
      · exact fun e => e.1
    · simp only [if_neg h, Option.some.injEq]; constructor
      · intro e; cases e
      · rintro ⟨rfl, e⟩; exact absurd e h

/-- a number at p digits behind the point, with what it is -/
theorem decOf_num {n : Int} {p : Nat} {m : Int} {k : Nat} (h : decOf (decide (n < 0)) n.natAbs p = some (m, k)) :
    k ≤ p ∧ k ≤ 18 ∧ m * 10 ^ (p - k) = n ∧ goodD m k = true ∧ m.natAbs ≤ big := by
  obtain ⟨hg, hb, _, h0, h1⟩ := decOf_is h
  obtain ⟨v1, v2, v3⟩ := decOf_val h
  rw [Int.toNat_natCast] at v3
  refine ⟨by omega, v2, ?_, hg, hb⟩
  have hpos : (0 : Int) < 10 ^ (p - k) := pwI _
  have habs : (m * 10 ^ (p - k)).natAbs = n.natAbs := by
    rw [Int.natAbs_mul, Int.natAbs_pow]; exact v3
  by_cases hn : n = 0
  · subst hn
    obtain ⟨rfl, _⟩ := h0 rfl
    simp
  · obtain ⟨hm, hs⟩ := h1 (by omega)
    rcases Int.natAbs_eq_natAbs_iff.1 habs with e | e
    · exact e
    · exfalso
      by_cases hlt : n < 0
      · have hml : m < 0 := by
          have : decide (m < 0) = true := by rw [hs]; simpa using hlt
          simpa using this
        have : m * 10 ^ (p - k) < 0 := Int.mul_neg_of_neg_of_pos hml hpos
        omega
      · have hml : ¬ m < 0 := by
          have : decide (m < 0) = false := by rw [hs]; simpa using hlt
          simpa using this
        have : 0 ≤ m * 10 ^ (p - k) := Int.mul_nonneg (by omega) (by omega)
        omega
theorem good_last {m : Int} {k : Nat} (h : goodD m k = true) (hk : k ≠ 0) : ¬ m % 10 = 0 := by
  obtain ⟨_, _, _, h⟩ := (goodD_iff m k).1 h
  rcases h with h | h
  · omega
  · intro e; exact h (by rw [tmod_abs]; omega)
theorem dec_some (n : Int) (p : Nat) (hn : n.natAbs ≤ big) (hp : p ≤ 18) : ∃ m k, decOf (decide (n < 0)) n.natAbs p = some (m, k) := by
  obtain ⟨⟨m, k⟩, h⟩ := decOf_some (decide (n < 0)) n.natAbs p hn (by omega) (by omega)
  exact ⟨m, k, h⟩
theorem pw10 (i : Nat) : (10 : Int) ^ i ≠ 0 := by have := pwI i; omega
/-- the number at q digits, where it is whole there -/
theorem at_iff {n : Int} {p q : Nat} (hq : q ≤ 18) {m : Int} {k : Nat} (h : decOf (decide (n < 0)) n.natAbs p = some (m, k)) (t : Int) :
    scaledO m k q = some t ↔ t * 10 ^ p = n * 10 ^ q ∧ t.natAbs ≤ big := by
  obtain ⟨h1, h2, h3, h4, h5⟩ := decOf_num h
  unfold scaledO
  constructor
  · intro e
    split at e
    · rename_i c
      obtain ⟨_, c2, _, c4⟩ := c
      cases e
      have hkq : k ≤ q := by omega
      rw [show ((q : Int) - k).toNat = q - k by omega] at c4 ⊢
      refine ⟨?_, by rw [Int.natAbs_mul, Int.natAbs_pow]; exact c4⟩
      rw [← h3, show p = (p - k) + k by omega, Int.pow_add, show (p - k) + k - k = p - k by omega]
      rw [show (10 : Int) ^ q = 10 ^ (q - k) * 10 ^ k by rw [← Int.pow_add]; congr 1; omega]
      simp only [Int.mul_assoc, Int.mul_left_comm, Int.mul_comm]
    · cases e
  · rintro ⟨e, hb⟩
    -- t * 10^p = m * 10^(p-k) * 10^q
    have e2 : t * 10 ^ k = m * 10 ^ q := by
      have : (t * 10 ^ k) * 10 ^ (p - k) = (m * 10 ^ q) * 10 ^ (p - k) := by
        rw [Int.mul_assoc, ← Int.pow_add, show k + (p - k) = p by omega, e, ← h3]
        simp only [Int.mul_assoc, Int.mul_left_comm, Int.mul_comm]
      exact Int.eq_of_mul_eq_mul_right (pw10 _) this
    have hkq : k ≤ q := by
      refine Classical.byContradiction fun hno => ?_
      have e3 : t * 10 ^ (k - q) = m := by
        have : (t * 10 ^ (k - q)) * 10 ^ q = m * 10 ^ q := by
          rw [Int.mul_assoc, ← Int.pow_add, show k - q + q = k by omega, e2]
        exact Int.eq_of_mul_eq_mul_right (pw10 _) this
      refine good_last h4 (by omega) ?_
      rw [← e3, show k - q = (k - q - 1) + 1 by omega, Int.pow_succ, ← Int.mul_assoc]
      omega
    have e3 : t = m * 10 ^ (q - k) := by
      have : t * 10 ^ k = (m * 10 ^ (q - k)) * 10 ^ k := by
        rw [Int.mul_assoc, ← Int.pow_add, show q - k + k = q by omega, e2]
      exact Int.eq_of_mul_eq_mul_right (pw10 _) this
    rw [show ((q : Int) - k).toNat = q - k by omega, if_pos ⟨h4, by omega, by omega, by rw [e3, Int.natAbs_mul, Int.natAbs_pow] at hb; exact hb⟩, e3]

theorem isT_abs {t : Int} (h : isT t = true) : t.natAbs ≤ 1125899906842624 := by have := (isT_iff t).1 h; omega
/-- what Ms says: the time t with t / 10^3 s = n / 10^(3u) s -/
theorem msO_iff (n : Int) (u : Nat) (hu : u < 4) (h1 : -9223372036854775808 ≤ n) (h2 : n ≤ 9223372036854775807) (t : Int) : msO n u = some t ↔ t * 10 ^ (3 * u) = n * 1000 ∧ isT t = true := by
  unfold msO
  rw [if_pos ((isU_iff _).2 ⟨by omega, by omega⟩)]
  have e3 : (3 : Int) * (u : Int) = ((3 * u : Nat) : Int) := by omega
  rw [e3]
  by_cases hm : n = -9223372036854775808
  · subst hm
    have hd : decOf (decide ((-9223372036854775808 : Int) < 0)) (-9223372036854775808 : Int).natAbs ((3 * u : Nat) : Int) = none := by
      unfold decOf
      rw [if_neg (by omega), if_neg (by decide), Int.toNat_natCast, strip_id _ _ (Or.inr (by decide)), if_neg (fun h => absurd (show (-9223372036854775808 : Int).natAbs ≤ big from h.1) (by decide))]
    rw [hd]
    constructor
    · intro h; cases h
    · rintro ⟨h, ht⟩
      have := (isT_iff t).1 ht
      exfalso
      have : u = 0 ∨ u = 1 ∨ u = 2 ∨ u = 3 := by omega
      rcases this with rfl | rfl | rfl | rfl <;> simp at h <;> omega
  · obtain ⟨m, k, hd⟩ := dec_some n (3 * u) (by unfold big; omega) (by omega)
    rw [hd]
    show secO m k = some t ↔ _
    have hi := at_iff (q := 3) (by omega) hd t
    unfold secO
    rw [timeO_iff, show (3 : Int) = ((3 : Nat) : Int) from rfl, hi]
    constructor
    · rintro ⟨⟨a, _⟩, b⟩; exact ⟨a, b⟩
    · rintro ⟨a, b⟩; exact ⟨⟨a, by have := isT_abs b; unfold big; omega⟩, b⟩
theorem opt_ext {a b : Option Int} (h : ∀ t, a = some t ↔ b = some t) : a = b := by
  cases a with
  | some x => exact ((h x).1 rfl).symm
  | none =>
    cases b with
    | none => rfl
    | some y => exact (h y).2 rfl
end Go.Proofs.YtjeefgamkoeiaaaGreatDoor.Dc
