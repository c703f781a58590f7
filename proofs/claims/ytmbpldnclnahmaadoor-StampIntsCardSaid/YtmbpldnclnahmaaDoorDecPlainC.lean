/- Plain mathematics: noughts taken off texts; a decimal's own text. No program. -/
import Derived.Test.YtmbpldnclnahmaaDoorDecPlainB
set_option linter.unusedVariables false
set_option linter.unusedSimpArgs false
namespace Go.Proofs.YtmbpldnclnahmaaDoor.Dc

/-! ### a byte taken off a text's ends -/
def trimL (c : UInt8) : List UInt8 → List UInt8
  | [] => []
  | x :: l => if x = c then trimL c l else x :: l
theorem trimL_len (c : UInt8) (l : List UInt8) : (trimL c l).length ≤ l.length := by
  induction l with
  | nil => exact Nat.le_refl _
  | cons x l ih => rw [trimL]; split <;> simp; omega
theorem trimL_is (c : UInt8) (l : List UInt8) : ∃ j, l = List.replicate j c ++ trimL c l := by
  induction l with
  | nil => exact ⟨0, rfl⟩
  | cons x l ih =>
    rw [trimL]
    split
    · rename_i h
      obtain ⟨j, e⟩ := ih
      refine ⟨j + 1, ?_⟩
      rw [List.replicate_succ, List.cons_append, ← e, h]
    · exact ⟨0, rfl⟩
theorem trimL_head (c : UInt8) (l : List UInt8) : ∀ x r, trimL c l = x :: r → x ≠ c := by
  induction l with
  | nil => intro x r e; cases e
  | cons y l ih =>
    intro x r e
    rw [trimL] at e
    split at e
    · exact ih x r e
    · rename_i h; cases e; exact h
def trimR (c : UInt8) (l : List UInt8) : List UInt8 := (trimL c l.reverse).reverse
theorem trimR_snoc (c : UInt8) (l : List UInt8) : trimR c (l ++ [c]) = trimR c l := by
  unfold trimR
  rw [List.reverse_append, List.reverse_singleton, List.singleton_append, trimL, if_pos rfl]
theorem trimR_stop (c x : UInt8) (l : List UInt8) (h : x ≠ c) : trimR c (l ++ [x]) = l ++ [x] := by
  unfold trimR
  rw [List.reverse_append, List.reverse_singleton, List.singleton_append, trimL, if_neg h]
  simp
theorem trimR_nil (c : UInt8) : trimR c [] = [] := rfl
theorem trimR_len (c : UInt8) (l : List UInt8) : (trimR c l).length ≤ l.length := by
  unfold trimR
  have := trimL_len c l.reverse
  rw [List.length_reverse] at *
  exact this
theorem trimR_is (c : UInt8) (l : List UInt8) : ∃ j, l = trimR c l ++ List.replicate j c := by
  obtain ⟨j, e⟩ := trimL_is c l.reverse
  refine ⟨j, ?_⟩
  have := congrArg List.reverse e
  rw [List.reverse_reverse, List.reverse_append, List.reverse_replicate] at this
  exact this
theorem trimR_last (c : UInt8) (l : List UInt8) : ∀ i x, trimR c l = i ++ [x] → x ≠ c := by
  intro i x e
  unfold trimR at e
  have := congrArg List.reverse e
  rw [List.reverse_reverse, List.reverse_append, List.reverse_singleton, List.singleton_append] at this
  exact trimL_head c _ x _ this

theorem vals_zeros (n : Nat) : vals (List.replicate n 48) = List.replicate n 0 := by
  unfold vals; rw [List.map_replicate]; rfl
theorem dv_ne {c : UInt8} (h : dg c = true) (h0 : c ≠ 48) : dv c ≠ 0 := by
  have := (dg_iff c).1 h
  unfold dv
  intro e
  exact h0 (UInt8.toNat_inj.1 (by show c.toNat = 48; omega))

/-! ### the number of a text's digits -/
def numOf (neg : Bool) (d e : List UInt8) : Option (Int × Nat) :=
  if 19 < (trimL 48 d).length ∨ 19 < (trimL 48 d).length + (trimR 48 e).length then none
  else if big < valN (vals (trimL 48 d ++ trimR 48 e)) then none
  else decOf (decide ((if neg then -(valN (vals (trimL 48 d ++ trimR 48 e)) : Int) else (valN (vals (trimL 48 d ++ trimR 48 e)) : Int)) < 0)) (valN (vals (trimL 48 d ++ trimR 48 e))) (trimR 48 e).length
theorem numOf_is (neg : Bool) (d e : List UInt8) (hd : allDg d) (he : allDg e) : numOf neg d e = decOf neg (valN (vals (d ++ e))) e.length := by
  obtain ⟨j, ej⟩ := trimL_is 48 d
  obtain ⟨k, ek⟩ := trimR_is 48 e
  have hL := trimL_head 48 d
  have hR := trimR_last 48 e
  unfold numOf
  generalize trimL 48 d = L at *
  generalize trimR 48 e = B at *
  have hLd : allDg L := fun c hc => hd c (by rw [ej]; simp [hc])
  have hBd : allDg B := fun c hc => he c (by rw [ek]; simp [hc])
  have hv : valN (vals (d ++ e)) = valN (vals (L ++ B)) * 10 ^ k := by
    rw [ej, ek, List.append_assoc, vals_app, vals_zeros, valN_zeros, ← List.append_assoc, vals_app, vals_zeros, valN_pad]
  have hel : e.length = B.length + k := by rw [ek]; simp
  rw [hv, hel, decOf_pad]
  have h9 := vals_le (allDg_app hLd hBd)
  have hz : valN (vals (L ++ B)) = 0 → L = [] ∧ B = [] := by
    intro h0
    refine ⟨?_, ?_⟩
    · cases L with
      | nil => rfl
      | cons c r =>
        exfalso
        have h1 := valN_ge (dv c) (vals (r ++ B)) (dv_ne (hLd c (by simp)) (hL c r rfl))
        have h2 : 0 < 10 ^ (vals (r ++ B)).length := Nat.pow_pos (by omega)
        have h3 : vals (c :: r ++ B) = dv c :: vals (r ++ B) := rfl
        rw [h3] at h0
        omega
    · rcases List.eq_nil_or_concat B with h | ⟨i, x, hx⟩
      · exact h
      · exfalso
        have hx' : B = i ++ [x] := by simpa using hx
        have hne := dv_ne (hBd x (by rw [hx']; simp)) (hR i x hx')
        rw [hx', ← List.append_assoc, vals_app] at h0
        have h1 := valN_snoc (vals (L ++ i)) (dv x)
        have h2 : vals [x] = [dv x] := rfl
        rw [h2] at h0
        omega
  by_cases hn : valN (vals (L ++ B)) = 0
  · obtain ⟨rfl, rfl⟩ := hz hn
    have h0 : valN (vals (([] : List UInt8) ++ [])) = 0 := rfl
    rw [h0]
    rw [if_neg (by simp), if_neg (by omega)]
    exact decOf_zero _ _ _
  · have hst : strip B.length (valN (vals (L ++ B))) = (valN (vals (L ++ B)), B.length) := by
      refine strip_id _ _ ?_
      rcases List.eq_nil_or_concat B with h | ⟨i, x, hx⟩
      · exact Or.inl (by rw [h]; rfl)
      · right
        have hx' : B = i ++ [x] := by simpa using hx
        have hne := dv_ne (hBd x (by rw [hx']; simp)) (hR i x hx')
        have h9 : dv x ≤ 9 := vals_le hBd (dv x) (by rw [hx']; simp [vals])
        rw [hx', ← List.append_assoc, vals_app]
        have h2 : vals [x] = [dv x] := rfl
        rw [h2, valN_snoc]
        omega
    have hdec : ∀ ng, decOf ng (valN (vals (L ++ B))) (B.length : Int) = if valN (vals (L ++ B)) ≤ big ∧ B.length ≤ 18 then some (if ng then -(valN (vals (L ++ B)) : Int) else (valN (vals (L ++ B)) : Int), B.length) else none := by
      intro ng
      unfold decOf
      rw [if_neg (by omega), if_neg hn, Int.toNat_natCast, hst]
    rw [hdec, hdec]
    have hge : 0 < L.length → 10 ^ (L.length + B.length - 1) ≤ valN (vals (L ++ B)) := by
      intro hl
      cases L with
      | nil => simp at hl
      | cons c r =>
        have h1 := valN_ge (dv c) (vals (r ++ B)) (dv_ne (hLd c (by simp)) (hL c r rfl))
        have h3 : vals (c :: r ++ B) = dv c :: vals (r ++ B) := rfl
        rw [h3]
        rw [vals_len, List.length_append] at h1
        have h4 : (c :: r).length + B.length - 1 = r.length + B.length := by simp
        rw [h4]
        exact h1
    by_cases h1 : 19 < L.length ∨ 19 < L.length + B.length
    · rw [if_pos h1, if_neg]
      rintro ⟨h2, h3⟩
      have h4 := hge (by omega)
      have h5 : 10 ^ 19 ≤ 10 ^ (L.length + B.length - 1) := Nat.pow_le_pow_right (by omega) (by omega)
      unfold big at h2
      omega
    · rw [if_neg h1]
      by_cases h2 : big < valN (vals (L ++ B))
      · rw [if_pos h2, if_neg (by omega)]
      · rw [if_neg h2]
        have h3 : decide ((if neg = true then -(valN (vals (L ++ B)) : Int) else (valN (vals (L ++ B)) : Int)) < 0) = neg := by
          cases neg
          · simp
          · simp; omega
        rw [h3]

/-! ### a decimal's text -/
def dgt (n i : Nat) : Nat := n / 10 ^ i % 10
def ch (n i : Nat) : UInt8 := UInt8.ofNat (48 + dgt n i)
theorem dgt_le (n i : Nat) : dgt n i ≤ 9 := by unfold dgt; omega
theorem ch_nat (n i : Nat) : (ch n i).toNat = 48 + dgt n i := by
  unfold ch
  have := dgt_le n i
  simp; omega
theorem ch_dg (n i : Nat) : dg (ch n i) = true := by
  rw [dg_iff, ch_nat]
  have := dgt_le n i
  omega
theorem ch_dv (n i : Nat) : dv (ch n i) = dgt n i := by unfold dv; rw [ch_nat]; omega
/-- the last k digits, the first one first, with the point where it belongs -/
def bd (n s : Nat) : Nat → List UInt8
  | 0 => []
  | k + 1 => ch n k :: (if 0 < k ∧ k = s then 46 :: bd n s k else bd n s k)
def printL (m s : Int) : List UInt8 := if goodD m s = true then sgn (decide (m < 0)) ++ bd m.natAbs s.toNat (max (digs m.natAbs).length (s.toNat + 1)) else []
def dl (n : Nat) : Nat → List UInt8
  | 0 => []
  | k + 1 => ch n k :: dl n k
def dh (n s : Nat) : Nat → List UInt8
  | 0 => []
  | j + 1 => ch n (s + j) :: dh n s j
theorem dl_len (n k : Nat) : (dl n k).length = k := by induction k with | zero => rfl | succ k ih => rw [dl, List.length_cons, ih]
theorem dl_dg (n k : Nat) : allDg (dl n k) := by
  induction k with
  | zero => exact fun c hc => absurd hc List.not_mem_nil
  | succ k ih =>
    intro c hc
    rcases List.mem_cons.1 hc with rfl | hc
    · exact ch_dg n k
    · exact ih c hc
theorem dh_dg (n s j : Nat) : allDg (dh n s j) := by
  induction j with
  | zero => exact fun c hc => absurd hc List.not_mem_nil
  | succ k ih =>
    intro c hc
    rcases List.mem_cons.1 hc with rfl | hc
    · exact ch_dg n (s + k)
    · exact ih c hc
theorem bd_low (n s k : Nat) (h : k ≤ s) : bd n s k = dl n k := by
  induction k with
  | zero => rfl
  | succ k ih => rw [bd, dl, if_neg (by omega), ih (by omega)]
theorem bd_is (n s j : Nat) : bd n s (s + (j + 1)) = dh n s (j + 1) ++ dot (dl n s) := by
  induction j with
  | zero =>
    show bd n s (s + 1) = [ch n s] ++ dot (dl n s)
    rw [bd, bd_low n s s (Nat.le_refl _)]
    cases s with
    | zero => rw [if_neg (by omega)]; rfl
    | succ s => rw [if_pos (by omega)]; rfl
  | succ j ih =>
    show bd n s (s + (j + 1) + 1) = ch n (s + (j + 1)) :: dh n s (j + 1) ++ _
    rw [bd, if_neg (by omega), ih]; rfl
theorem dh_dl (n s j : Nat) : dh n s j ++ dl n s = dl n (s + j) := by
  induction j with
  | zero => rfl
  | succ j ih => show ch n (s + j) :: dh n s j ++ dl n s = dl n (s + j + 1); rw [dl, ← ih]; rfl
theorem vals_dl (n k : Nat) : valN (vals (dl n k)) = n % 10 ^ k := by
  induction k with
  | zero => simp [dl, vals, valN]; omega
  | succ k ih =>
    show valN (dv (ch n k) :: vals (dl n k)) = _
    rw [valN_cons, ih, ch_dv, vals_len, dl_len, dgt, Nat.pow_succ, Nat.mod_mul]
    rw [Nat.add_comm, Nat.mul_comm]
theorem bd_split (n s : Nat) (K : Nat) (hK : s < K) : ∃ d, allDg d ∧ d ≠ [] ∧ bd n s K = d ++ dot (dl n s) ∧ valN (vals (d ++ dl n s)) = n % 10 ^ K := by
  obtain ⟨j, rfl⟩ : ∃ j, K = s + (j + 1) := ⟨K - s - 1, by omega⟩
  refine ⟨dh n s (j + 1), dh_dg _ _ _, by simp [dh], bd_is n s j, ?_⟩
  rw [dh_dl, vals_dl]
/-- a decimal's text, by its digits ahead of and behind the point -/
theorem printL_is (m s : Int) (h : goodD m s = true) : ∃ d, allDg d ∧ d ≠ [] ∧ printL m s = sgn (decide (m < 0)) ++ (d ++ dot (dl m.natAbs s.toNat)) ∧ valN (vals (d ++ dl m.natAbs s.toNat)) = m.natAbs := by
  obtain ⟨d, h1, h2, h3, h4⟩ := bd_split m.natAbs s.toNat (max (digs m.natAbs).length (s.toNat + 1)) (by omega)
  refine ⟨d, h1, h2, ?_, ?_⟩
  · unfold printL; rw [if_pos h, h3]
  · rw [h4]
    refine Nat.mod_eq_of_lt ?_
    have h5 := digs_lt m.natAbs
    have h6 : 10 ^ (digs m.natAbs).length ≤ 10 ^ (max (digs m.natAbs).length (s.toNat + 1)) := Nat.pow_le_pow_right (by omega) (by omega)
    omega
/-- with noughts ahead, and behind the last digit behind the point, it is read as it was -/
theorem parse_noughts (m s : Int) (hm : m.natAbs ≤ big) (h : goodD m s = true) (a b : Nat) (d : List UInt8) (hd : allDg d) (hne : d ≠ []) (hv : valN (vals (d ++ dl m.natAbs s.toNat)) = m.natAbs) :
    parse (sgn (decide (m < 0)) ++ (List.replicate a 48 ++ d) ++ dot (dl m.natAbs s.toNat ++ List.replicate b 48)) = ((m, s), 0, 0) := by
  have hz : ∀ n, allDg (List.replicate n 48) := fun n c hc => by obtain ⟨_, rfl⟩ := List.mem_replicate.1 hc; rfl
  rw [parse_ok (cut_text _ _ _ (allDg_app (hz a) hd) (by simp [hne]) (allDg_app (dl_dg _ _) (hz b)))]
  have e1 : valN (vals (List.replicate a 48 ++ d ++ (dl m.natAbs s.toNat ++ List.replicate b 48))) = m.natAbs * 10 ^ b := by
    rw [List.append_assoc, vals_app, vals_zeros, valN_zeros, ← List.append_assoc, vals_app, vals_zeros, valN_pad, hv]
  have e2 : ((dl m.natAbs s.toNat ++ List.replicate b 48).length : Int) = ((s.toNat + b : Nat) : Int) := by simp [dl_len]
  have hg := (goodD_iff m s).1 h
  have e3 : decOf (decide (m < 0)) m.natAbs (s.toNat : Int) = some (m, s.toNat) := by
    rw [Int.toNat_of_nonneg hg.1]; exact decOf_good m s hm h
  rw [e1, e2, decOf_pad, e3]
  show ((m, ((s.toNat : Nat) : Int)), (0 : Int), (0 : Int)) = _
  rw [Int.toNat_of_nonneg hg.1]
theorem parse_print (m s : Int) (hm : m.natAbs ≤ big) (h : goodD m s = true) : parse (printL m s) = ((m, s), 0, 0) := by
  obtain ⟨d, h1, h2, h3, h4⟩ := printL_is m s h
  have := parse_noughts m s hm h 0 0 d h1 h2 h4
  simp only [List.replicate_zero, List.nil_append, List.append_nil] at this
  rw [h3, ← List.append_assoc]; exact this
theorem print_ne (m s : Int) (h : goodD m s = true) : printL m s ≠ [] := by
  obtain ⟨d, _, h2, h3, _⟩ := printL_is m s h
  rw [h3]; simp [h2]
theorem digs_small {n : Nat} (h : n ≤ big) : (digs n).length ≤ 19 := digs_len_le (by unfold big at h; omega)
theorem bd_len (n s k : Nat) : (bd n s k).length ≤ k + 1 := by
  by_cases h : k ≤ s
  · rw [bd_low n s k h, dl_len]; omega
  · obtain ⟨j, rfl⟩ : ∃ j, k = s + (j + 1) := ⟨k - s - 1, by omega⟩
    have h1 := congrArg List.length (dh_dl n s (j + 1))
    rw [List.length_append, dl_len, dl_len] at h1
    rw [bd_is, List.length_append]
    have : (dot (dl n s)).length ≤ s + 1 := by unfold dot; split <;> simp [dl_len]
    omega
theorem printL_len (m s : Int) (hm : m.natAbs ≤ big) : (printL m s).length ≤ 40 := by
  unfold printL
  split
  · rename_i hg
    obtain ⟨h1, h2, _, _⟩ := (goodD_iff m s).1 hg
    have h3 := bd_len m.natAbs s.toNat (max (digs m.natAbs).length (s.toNat + 1))
    have h4 := digs_small hm
    have h5 : (sgn (decide (m < 0))).length ≤ 1 := by unfold sgn; split <;> simp
    rw [List.length_append]; omega
  · simp

end Go.Proofs.YtmbpldnclnahmaaDoor.Dc
