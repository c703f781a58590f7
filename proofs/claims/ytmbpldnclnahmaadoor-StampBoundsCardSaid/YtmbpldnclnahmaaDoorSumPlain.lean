/- Plain mathematics: numbers by their digits, the last one first: sums, differences, products, quotients, column by column. No program. -/
import Derived.Test.YtmbpldnclnahmaaDoorDecPlainC
set_option linter.unusedVariables false
set_option linter.unusedSimpArgs false
namespace Go.Proofs.YtmbpldnclnahmaaDoor.Dc

theorem pw (i : Nat) : 0 < 10 ^ i := Nat.pow_pos (by omega)
theorem mod_step (n i : Nat) : n % 10 ^ (i + 1) = n % 10 ^ i + dgt n i * 10 ^ i := by
  rw [Nat.pow_succ, Nat.mod_mul, Nat.mul_comm (10 ^ i)]; rfl
theorem div_step (n i : Nat) : n / 10 ^ i = 10 * (n / 10 ^ (i + 1)) + dgt n i := by
  unfold dgt
  rw [Nat.pow_succ, ← Nat.div_div_eq_div_mul]; omega
theorem dgt_zero_of_lt {n i : Nat} (h : n < 10 ^ i) : dgt n i = 0 := by unfold dgt; rw [Nat.div_eq_of_lt h]
theorem dgt_zero (i : Nat) : dgt 0 i = 0 := by unfold dgt; simp
theorem dgt_of_le {n i k : Nat} (h : n < 10 ^ i) (hk : i ≤ k) : dgt n k = 0 := dgt_zero_of_lt (Nat.lt_of_lt_of_le h (Nat.pow_le_pow_right (by omega) hk))
theorem lt_pow_of_dgts {n k : Nat} (m : Nat) (h : n < 10 ^ (k + m)) (h0 : ∀ i, k ≤ i → i < k + m → dgt n i = 0) : n < 10 ^ k := by
  induction m with
  | zero => exact h
  | succ m ih =>
    refine ih ?_ (fun i h1 h2 => h0 i h1 (by omega))
    have h1 := h0 (k + m) (by omega) (by omega)
    have h2 := div_step n (k + m)
    rw [h1, Nat.div_eq_of_lt (show n < 10 ^ (k + m + 1) from h)] at h2
    rcases Nat.div_eq_zero_iff.1 h2 with h3 | h3
    · have := pw (k + m); omega
    · exact h3
/-- a digit moved up -/
theorem dgt_up (n u i : Nat) : dgt (n * 10 ^ u) i = if u ≤ i then dgt n (i - u) else 0 := by
  unfold dgt
  split
  · rename_i h
    obtain ⟨j, rfl⟩ : ∃ j, i = u + j := ⟨i - u, by omega⟩
    rw [Nat.pow_add, ← Nat.div_div_eq_div_mul, Nat.mul_div_cancel _ (pw u), show u + j - u = j by omega]
  · rename_i h
    obtain ⟨j, rfl⟩ : ∃ j, u = i + 1 + j := ⟨u - i - 1, by omega⟩
    rw [show n * 10 ^ (i + 1 + j) = (n * 10 ^ j * 10) * 10 ^ i by rw [show i + 1 + j = j + 1 + i by omega, Nat.pow_add, Nat.pow_succ]; simp only [Nat.mul_assoc], Nat.mul_div_cancel _ (pw i)]
    omega
theorem dgt_down (n u i : Nat) : dgt (n / 10 ^ u) i = dgt n (u + i) := by
  unfold dgt
  rw [Nat.pow_add, Nat.div_div_eq_div_mul]
theorem dgt_low (P z i k : Nat) (h : k < i) : dgt (P + z * 10 ^ i) k = dgt P k := by
  unfold dgt
  obtain ⟨j, rfl⟩ : ∃ j, i = k + 1 + j := ⟨i - k - 1, by omega⟩
  rw [show z * 10 ^ (k + 1 + j) = (z * 10 ^ j * 10) * 10 ^ k by rw [show k + 1 + j = j + 1 + k by omega, Nat.pow_add, Nat.pow_succ]; simp only [Nat.mul_assoc], Nat.add_mul_div_right _ _ (pw k)]
  omega

/-! ### one column -/
theorem col_carry (A t k : Nat) : (A + t * 10 ^ k) / 10 ^ (k + 1) = (A / 10 ^ k + t) / 10 := by
  rw [Nat.pow_succ, ← Nat.div_div_eq_div_mul, Nat.add_mul_div_right _ _ (pw k)]
theorem col_digit (A t k R : Nat) : dgt (A + t * 10 ^ k + R * 10 ^ (k + 1)) k = (A / 10 ^ k + t) % 10 := by
  unfold dgt
  rw [show R * 10 ^ (k + 1) = (R * 10) * 10 ^ k by rw [Nat.pow_succ, Nat.mul_assoc, Nat.mul_comm 10], Nat.add_mul_div_right _ _ (pw k), Nat.add_mul_div_right _ _ (pw k)]
  omega

/-! ### sums -/
/-- what is carried into the place i -/
def cy (x y i : Nat) : Nat := (x % 10 ^ i + y % 10 ^ i) / 10 ^ i
theorem cy_zero (x y : Nat) : cy x y 0 = 0 := by unfold cy; simp [Nat.mod_one]
theorem cy_le (x y i : Nat) : cy x y i ≤ 1 := by
  unfold cy
  have h1 := Nat.mod_lt x (pw i)
  have h2 := Nat.mod_lt y (pw i)
  have : (x % 10 ^ i + y % 10 ^ i) / 10 ^ i < 2 := (Nat.div_lt_iff_lt_mul (pw i)).2 (by omega)
  omega
theorem sum_col (x y i : Nat) : x % 10 ^ (i + 1) + y % 10 ^ (i + 1) = x % 10 ^ i + y % 10 ^ i + (dgt x i + dgt y i) * 10 ^ i := by
  rw [mod_step x, mod_step y, Nat.add_mul]; omega
theorem cy_step (x y i : Nat) : cy x y (i + 1) = (dgt x i + dgt y i + cy x y i) / 10 := by
  unfold cy
  rw [sum_col, col_carry, Nat.add_comm]
theorem plus_dgt (x y i : Nat) : dgt (x + y) i = (dgt x i + dgt y i + cy x y i) % 10 := by
  have h1 := Nat.div_add_mod' x (10 ^ (i + 1))
  have h2 := Nat.div_add_mod' y (10 ^ (i + 1))
  have e : x + y = x % 10 ^ i + y % 10 ^ i + (dgt x i + dgt y i) * 10 ^ i + (x / 10 ^ (i + 1) + y / 10 ^ (i + 1)) * 10 ^ (i + 1) := by
    rw [← sum_col, Nat.add_mul]; omega
  rw [show dgt (x + y) i = dgt (x % 10 ^ i + y % 10 ^ i + (dgt x i + dgt y i) * 10 ^ i + (x / 10 ^ (i + 1) + y / 10 ^ (i + 1)) * 10 ^ (i + 1)) i by rw [← e], col_digit, Nat.add_comm]
  rfl
/-! ### differences -/
theorem minus_dgt (x y i : Nat) (h : y ≤ x) : dgt (x - y) i = (10 + dgt x i - dgt y i - cy (x - y) y i) % 10 ∧ cy (x - y) y (i + 1) = 1 - (10 + dgt x i - dgt y i - cy (x - y) y i) / 10 := by
  have h1 := plus_dgt (x - y) y i
  have h2 := cy_step (x - y) y i
  rw [Nat.sub_add_cancel h] at h1
  have h3 := dgt_le (x - y) i
  have h4 := dgt_le y i
  have h5 := cy_le (x - y) y i
  omega

/-! ### products -/
/-- what is carried into the place i + j, where d times y is added to P at the place i -/
def cz (P d y i j : Nat) : Nat := (P % 10 ^ (i + j) + d * 10 ^ i * (y % 10 ^ j)) / 10 ^ (i + j)
theorem cz_zero (P d y i : Nat) : cz P d y i 0 = 0 := by
  unfold cz
  rw [Nat.pow_zero, Nat.mod_one, Nat.mul_zero, Nat.add_zero, Nat.add_zero]
  exact Nat.div_eq_of_lt (Nat.mod_lt _ (pw i))
theorem cz_le (P d y i j : Nat) (hd : d ≤ 9) : cz P d y i j ≤ 9 := by
  unfold cz
  have h1 := Nat.mod_lt P (pw (i + j))
  have h2 : d * 10 ^ i * (y % 10 ^ j) ≤ 9 * 10 ^ (i + j) := by
    rw [Nat.pow_add, ← Nat.mul_assoc]
    exact Nat.mul_le_mul (Nat.mul_le_mul_right _ hd) (Nat.le_of_lt (Nat.mod_lt _ (pw j)))
  have : (P % 10 ^ (i + j) + d * 10 ^ i * (y % 10 ^ j)) / 10 ^ (i + j) < 10 := (Nat.div_lt_iff_lt_mul (pw _)).2 (by omega)
  omega
theorem prod_col (P d y i j : Nat) : P % 10 ^ (i + j + 1) + d * 10 ^ i * (y % 10 ^ (j + 1)) = P % 10 ^ (i + j) + d * 10 ^ i * (y % 10 ^ j) + (dgt P (i + j) + d * dgt y j) * 10 ^ (i + j) := by
  rw [mod_step P, mod_step y, Nat.mul_add, Nat.add_mul, show d * 10 ^ i * (dgt y j * 10 ^ j) = d * dgt y j * 10 ^ (i + j) by rw [Nat.pow_add, Nat.mul_mul_mul_comm]]
  omega
theorem cz_step (P d y i j : Nat) : cz P d y i (j + 1) = (dgt P (i + j) + d * dgt y j + cz P d y i j) / 10 := by
  unfold cz
  rw [← Nat.add_assoc, prod_col, col_carry, Nat.add_comm]
theorem prod_dgt (P d y i j : Nat) : dgt (P + d * 10 ^ i * y) (i + j) = (dgt P (i + j) + d * dgt y j + cz P d y i j) % 10 := by
  have h1 := Nat.div_add_mod' P (10 ^ (i + j + 1))
  have h2 := Nat.div_add_mod' y (10 ^ (j + 1))
  have h3 : d * 10 ^ i * y = d * 10 ^ i * (y % 10 ^ (j + 1)) + (d * (y / 10 ^ (j + 1))) * 10 ^ (i + j + 1) := by
    conv => lhs; rw [← h2]
    have e2 : d * 10 ^ i * (y / 10 ^ (j + 1) * 10 ^ (j + 1)) = d * (y / 10 ^ (j + 1)) * 10 ^ (i + j + 1) := by
      generalize y / 10 ^ (j + 1) = q
      rw [Nat.mul_mul_mul_comm, ← Nat.pow_add, Nat.add_assoc]
    rw [Nat.mul_add, e2]
    omega
  have e : P + d * 10 ^ i * y = P % 10 ^ (i + j) + d * 10 ^ i * (y % 10 ^ j) + (dgt P (i + j) + d * dgt y j) * 10 ^ (i + j) + (P / 10 ^ (i + j + 1) + d * (y / 10 ^ (j + 1))) * 10 ^ (i + j + 1) := by
    rw [← prod_col, Nat.add_mul, h3]; omega
  rw [show dgt (P + d * 10 ^ i * y) (i + j) = dgt (P % 10 ^ (i + j) + d * 10 ^ i * (y % 10 ^ j) + (dgt P (i + j) + d * dgt y j) * 10 ^ (i + j) + (P / 10 ^ (i + j + 1) + d * (y / 10 ^ (j + 1))) * 10 ^ (i + j + 1)) (i + j) by rw [← e], col_digit, Nat.add_comm]
  rfl
theorem part_step (x y i : Nat) : x % 10 ^ (i + 1) * y = x % 10 ^ i * y + dgt x i * 10 ^ i * y := by rw [mod_step, Nat.add_mul]
theorem part_lt (x y i n : Nat) (hy : y < 10 ^ n) : x % 10 ^ i * y < 10 ^ (i + n) := by
  rw [Nat.pow_add]
  have h1 := Nat.mod_lt x (pw i)
  by_cases h0 : y = 0
  · subst h0; rw [Nat.mul_zero]; exact Nat.mul_pos (pw i) (pw n)
  · exact Nat.mul_lt_mul_of_lt_of_lt h1 hy
theorem cz_last (x y i n : Nat) (hy : y < 10 ^ n) : cz (x % 10 ^ i * y) (dgt x i) y i n = dgt (x % 10 ^ (i + 1) * y) (i + n) := by
  have h1 := part_lt x y i n hy
  have h2 := part_lt x y (i + 1) n hy
  unfold cz
  rw [Nat.mod_eq_of_lt h1, Nat.mod_eq_of_lt hy, ← part_step]
  unfold dgt
  rw [show i + 1 + n = (i + n) + 1 by omega, Nat.pow_succ 10 (i + n), Nat.mul_comm (10 ^ (i + n))] at h2
  exact (Nat.mod_eq_of_lt ((Nat.div_lt_iff_lt_mul (pw _)).2 h2)).symm

/-! ### quotients -/
theorem over_rest (x y i : Nat) : (x / 10 ^ i) % y = (10 * (x / 10 ^ (i + 1) % y) + dgt x i) % y := by
  rw [div_step x i, Nat.add_mod, Nat.mul_mod, Nat.add_mod (10 * (x / 10 ^ (i + 1) % y)), Nat.mul_mod 10 (x / 10 ^ (i + 1) % y), Nat.mod_mod]
theorem over_digit (x y i : Nat) (hy : 0 < y) : dgt (x / y) i = (10 * (x / 10 ^ (i + 1) % y) + dgt x i) / y ∧ (10 * (x / 10 ^ (i + 1) % y) + dgt x i) / y ≤ 9 := by
  have h1 := Nat.mod_lt (x / 10 ^ (i + 1)) hy
  have h2 := dgt_le x i
  have h3 : (10 * (x / 10 ^ (i + 1) % y) + dgt x i) / y < 10 := (Nat.div_lt_iff_lt_mul hy).2 (by omega)
  refine ⟨?_, by omega⟩
  have e : x / y / 10 ^ i = 10 * (x / 10 ^ (i + 1) / y) + (10 * (x / 10 ^ (i + 1) % y) + dgt x i) / y := by
    rw [Nat.div_div_eq_div_mul, Nat.mul_comm y, ← Nat.div_div_eq_div_mul, div_step x i]
    have h4 := Nat.div_add_mod (x / 10 ^ (i + 1)) y
    generalize x / 10 ^ (i + 1) = q at *
    conv => lhs; rw [← h4]
    rw [Nat.mul_add, ← Nat.mul_assoc, Nat.mul_comm 10 y, Nat.mul_assoc, Nat.add_assoc, Nat.mul_add_div hy]
  show x / y / 10 ^ i % 10 = _
  rw [e, Nat.mul_add_mod]
  exact Nat.mod_eq_of_lt h3

/-! ### which of two is greater -/
def ord3 (x y : Int) : Int := if x < y then -1 else if y < x then 1 else 0
theorem ord3_lt {x y : Int} (h : x < y) : ord3 x y = -1 := by unfold ord3; rw [if_pos h]
theorem ord3_gt {x y : Int} (h : y < x) : ord3 x y = 1 := by unfold ord3; rw [if_neg (by omega), if_pos h]
theorem ord3_eq {x y : Int} (h : x = y) : ord3 x y = 0 := by unfold ord3; rw [if_neg (by omega), if_neg (by omega)]
theorem ord3_cases (x y : Int) : (x < y ∧ ord3 x y = -1) ∨ (y < x ∧ ord3 x y = 1) ∨ (x = y ∧ ord3 x y = 0) := by
  rcases Int.lt_trichotomy x y with h | h | h
  · exact Or.inl ⟨h, ord3_lt h⟩
  · exact Or.inr (Or.inr ⟨h, ord3_eq h⟩)
  · exact Or.inr (Or.inl ⟨h, ord3_gt h⟩)
theorem ord_lt_of_dgt {x y i : Nat} (he : x / 10 ^ (i + 1) = y / 10 ^ (i + 1)) (h : dgt x i < dgt y i) : x < y := by
  have h1 := div_step x i
  have h2 := div_step y i
  by_cases hc : x < y
  · exact hc
  · have := Nat.div_le_div_right (c := 10 ^ i) (show y ≤ x by omega)
    omega
theorem ord_eq_of_dgt {x y i : Nat} (he : x / 10 ^ (i + 1) = y / 10 ^ (i + 1)) (h : dgt x i = dgt y i) : x / 10 ^ i = y / 10 ^ i := by
  rw [div_step x i, div_step y i, he, h]

/-! ### decimals as whole numbers at the greatest scale -/
def lev (m s : Int) : Nat := m.natAbs * 10 ^ (18 - s).toNat
def zv (m s : Int) : Int := m * 10 ^ (18 - s).toNat
theorem zv_abs (m s : Int) : (zv m s).natAbs = lev m s := by
  unfold zv lev
  rw [Int.natAbs_mul, Int.natAbs_pow]; rfl
theorem pwI (i : Nat) : (0 : Int) < 10 ^ i := Int.pow_pos (by omega)
theorem zv_neg (m s : Int) : zv m s < 0 ↔ m < 0 := by
  unfold zv
  have := pwI (18 - s).toNat
  constructor
  · intro h
    by_cases hm : m < 0
    · exact hm
    · have := Int.mul_nonneg (show 0 ≤ m by omega) (Int.le_of_lt this); omega
  · intro h
    exact Int.mul_neg_of_neg_of_pos h this
theorem zv_zero (s : Int) : zv 0 s = 0 := by unfold zv; simp
theorem zv_negate (m s : Int) : zv (-m) s = - zv m s := by unfold zv; rw [Int.neg_mul]
theorem lev_zero {m s : Int} : lev m s = 0 ↔ m = 0 := by
  unfold lev
  have := pw (18 - s).toNat
  constructor
  · intro h
    rcases Nat.mul_eq_zero.1 h with h | h <;> omega
  · rintro rfl; simp
theorem zv_is (m s : Int) : zv m s = if m < 0 then -(lev m s : Int) else (lev m s : Int) := by
  have h1 := zv_abs m s
  have h2 := zv_neg m s
  split <;> omega
theorem lev_lt {m s : Int} (hm : m.natAbs ≤ big) (hs : 0 ≤ s) : lev m s < 10 ^ 37 := by
  unfold lev
  have h1 : (10 : Nat) ^ (18 - s).toNat ≤ 10 ^ 18 := Nat.pow_le_pow_right (by omega) (by omega)
  have h2 : m.natAbs * 10 ^ (18 - s).toNat ≤ big * 10 ^ 18 := Nat.mul_le_mul hm h1
  unfold big at h2
  omega

def decI (z : Int) : Option (Int × Nat) := decOf (decide (z < 0)) z.natAbs 18
theorem decOf_val {neg : Bool} {n : Nat} {s m : Int} {k : Nat} (h : decOf neg n s = some (m, k)) : (k : Int) ≤ s ∧ k ≤ 18 ∧ m.natAbs * 10 ^ (s.toNat - k) = n := by
  unfold decOf at h
  split at h
  · cases h
  rename_i hs
  split at h
  · rename_i hn
    cases h
    exact ⟨by omega, by omega, by rw [hn]; simp⟩
  · split at h
    · rename_i hb
      obtain ⟨h1, h2, _⟩ := strip_is s.toNat n
      generalize strip s.toNat n = r at *
      simp only [Option.some.injEq, Prod.mk.injEq] at h
      obtain ⟨rfl, rfl⟩ := h
      have habs : (if neg = true then -(r.1 : Int) else (r.1 : Int)).natAbs = r.1 := by split <;> omega
      exact ⟨by omega, hb.2, by rw [habs]; exact h2⟩
    · cases h
theorem decI_good {m s : Int} (hm : m.natAbs ≤ big) (h : goodD m s = true) : decI (zv m s) = some (m, s.toNat) := by
  obtain ⟨h0, h1, _⟩ := (goodD_iff m s).1 h
  have e := decOf_good m s hm h
  have hp := decOf_pad (decide (m < 0)) m.natAbs s.toNat (18 - s).toNat
  unfold decI
  rw [zv_abs, decide_eq_decide.2 (zv_neg m s)]
  unfold lev
  rw [show ((s.toNat + (18 - s).toNat : Nat) : Int) = 18 by omega] at hp
  rw [hp, show ((s.toNat : Nat) : Int) = s by omega, e]
theorem decI_some {z m : Int} {k : Nat} (h : decI z = some (m, k)) : goodD m k = true ∧ m.natAbs ≤ big ∧ zv m k = z := by
  unfold decI at h
  obtain ⟨h1, h2, _, h4, h5⟩ := decOf_is h
  obtain ⟨h6, h7, h8⟩ := decOf_val h
  refine ⟨h1, h2, ?_⟩
  have h9 : lev m k = z.natAbs := by
    unfold lev
    rw [← h8]; congr 2; omega
  rw [zv_is, h9]
  by_cases hz : z.natAbs = 0
  · rw [(h4 hz).1]; simp; omega
  · have := (h5 hz).2
    by_cases hn : z < 0
    · rw [decide_eq_true hn] at this
      rw [if_pos (by simpa using this)]; omega
    · rw [decide_eq_false hn] at this
      rw [if_neg (by simpa using this)]; omega
theorem good_inj {m s n t : Int} (h1 : goodD m s = true) (h2 : goodD n t = true) (k1 : m.natAbs ≤ big) (k2 : n.natAbs ≤ big) (h : zv m s = zv n t) : m = n ∧ s = t := by
  have e1 := decI_good k1 h1
  rw [h, decI_good k2 h2] at e1
  simp only [Option.some.injEq, Prod.mk.injEq] at e1
  have := ((goodD_iff m s).1 h1).1
  have := ((goodD_iff n t).1 h2).1
  exact ⟨e1.1.symm, by omega⟩
theorem decI_same {m s n t : Int} (h : decide (m < 0) = decide (n < 0)) : decOf (decide (m < 0)) (lev m s + lev n t) 18 = decI (zv m s + zv n t) := by
  unfold decI
  have h1 := zv_is m s
  have h2 := zv_is n t
  have hh : m < 0 ↔ n < 0 := decide_eq_decide.1 h
  generalize zv m s = x at *
  generalize zv n t = y at *
  by_cases hm : m < 0
  · rw [if_pos hm] at h1
    rw [if_pos (hh.1 hm)] at h2
    rw [show (x + y).natAbs = lev m s + lev n t by omega]
    by_cases h0 : lev m s + lev n t = 0
    · rw [h0]; exact decOf_zero _ _ _
    · rw [decide_eq_true hm, decide_eq_true (show x + y < 0 by omega)]
  · rw [if_neg hm] at h1
    rw [if_neg (fun e => hm (hh.2 e))] at h2
    rw [show (x + y).natAbs = lev m s + lev n t by omega, decide_eq_false hm, decide_eq_false (show ¬ x + y < 0 by omega)]
theorem decI_less {m s n t : Int} (h : ¬ decide (m < 0) = decide (n < 0)) (hl : lev m s < lev n t) : decOf (decide (n < 0)) (lev n t - lev m s) 18 = decI (zv m s + zv n t) := by
  unfold decI
  have h1 := zv_is m s
  have h2 := zv_is n t
  have hh : ¬ (m < 0 ↔ n < 0) := fun e => h (decide_eq_decide.2 e)
  generalize zv m s = x at *
  generalize zv n t = y at *
  by_cases hn : n < 0
  · have hm : ¬ m < 0 := fun e => hh ⟨fun _ => hn, fun _ => e⟩
    rw [if_neg hm] at h1
    rw [if_pos hn] at h2
    rw [show (x + y).natAbs = lev n t - lev m s by omega, decide_eq_true hn, decide_eq_true (show x + y < 0 by omega)]
  · have hm : m < 0 := by
      by_cases e : m < 0
      · exact e
      · exact absurd ⟨fun x => absurd x e, fun x => absurd x hn⟩ hh
    rw [if_pos hm] at h1
    rw [if_neg hn] at h2
    rw [show (x + y).natAbs = lev n t - lev m s by omega, decide_eq_false hn, decide_eq_false (show ¬ x + y < 0 by omega)]
theorem decI_more {m s n t : Int} (h : ¬ decide (m < 0) = decide (n < 0)) (hl : ¬ lev m s < lev n t) : decOf (decide (m < 0)) (lev m s - lev n t) 18 = decI (zv m s + zv n t) := by
  by_cases he : lev m s = lev n t
  · unfold decI
    have h1 := zv_is m s
    have h2 := zv_is n t
    have hh : ¬ (m < 0 ↔ n < 0) := fun e => h (decide_eq_decide.2 e)
    have : zv m s + zv n t = 0 := by
      by_cases hm : m < 0
      · rw [if_pos hm] at h1
        rw [if_neg (fun e => hh ⟨fun _ => e, fun _ => hm⟩)] at h2
        omega
      · rw [if_neg hm] at h1
        rw [if_pos (by
          by_cases e : n < 0
          · exact e
          · exact absurd ⟨fun x => absurd x hm, fun x => absurd x e⟩ hh)] at h2
        omega
    rw [this, he, Nat.sub_self]
    exact decOf_zero _ _ _
  · rw [Int.add_comm]
    exact decI_less (fun e => h e.symm) (by omega)

/-! ### what the calls answer -/
/-- the sum of one that is valid, and one -/
def plusO (m s n t : Int) : Option (Int × Nat) := if goodD n t = true then decI (zv m s + zv n t) else none
/-- the sum of all, one behind the other -/
def addL : Int → Int → List (Int × Int) → Option (Int × Int)
  | m, s, [] => some (m, s)
  | m, s, x :: r => match plusO m s x.1 x.2 with
    | none => none
    | some (a, k) => addL a k r
def timesO (m s n t : Int) : Option (Int × Nat) := if goodD m s = true ∧ goodD n t = true then decOf (decide (m < 0) != decide (n < 0)) (m.natAbs * n.natAbs) (s + t) else none
/-- the dividend, as a whole number -/
def dvd (m s t : Int) : Nat := m.natAbs * 10 ^ (18 - s + t).toNat
def overO (m s n t : Int) : Option (Int × Nat) :=
  if goodD m s = true ∧ goodD n t = true ∧ n ≠ 0 ∧ dvd m s t % n.natAbs = 0 then decOf (decide (m < 0) != decide (n < 0)) (dvd m s t / n.natAbs) 18 else none
def scaledO (m s k : Int) : Option Int :=
  if goodD m s = true ∧ s ≤ k ∧ k ≤ 18 ∧ m.natAbs * 10 ^ (k - s).toNat ≤ big then some (m * 10 ^ (k - s).toNat) else none
/-- what is not valid counts as 0 -/
def orZ (m s : Int) : Int × Int := if goodD m s = true then (m, s) else (0, 0)
def cmpO (m s n t : Int) : Int := ord3 (zv (orZ m s).1 (orZ m s).2) (zv (orZ n t).1 (orZ n t).2)
theorem orZ_good {m s : Int} (h : goodD m s = true) : orZ m s = (m, s) := by unfold orZ; rw [if_pos h]
theorem orZ_bad {m s : Int} (h : goodD m s = false) : orZ m s = (0, 0) := by unfold orZ; rw [if_neg (by simp [h])]
theorem orZ_is (m s : Int) : goodD (orZ m s).1 (orZ m s).2 = true := by
  cases h : goodD m s with
  | true => rw [orZ_good h]; exact h
  | false => rw [orZ_bad h]; decide
theorem big_of {m s : Int} (h : goodD m s = true) (h1 : -9223372036854775808 ≤ m) (h2 : m ≤ 9223372036854775807) : m.natAbs ≤ big := by
  have := ((goodD_iff m s).1 h).2.2.1
  unfold big; omega

end Go.Proofs.YtmbpldnclnahmaaDoor.Dc
