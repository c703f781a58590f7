/- Whole numbers and times as plain functions; what package stamp and the reference say of them is the same. -/
import Derived.Test.YtmbpldnclnahmaaDoorSumPlain
import Derived.Test.YtmbpldnclnahmaaDoorDecPlainC
set_option maxRecDepth 100000
set_option linter.unusedVariables false
set_option linter.unusedSimpArgs false
namespace Go.Proofs.YtmbpldnclnahmaaDoor.Dc

/-- the whole number of a text behind a sign, or without one, as the document has it: number, code, place -/
def uintO (l : List UInt8) : Int × Int × Int :=
  if dgN l = 0 ∨ dgN l < l.length then (0, 11, (dgN l : Nat))
  else if valN (vals l) ≤ big then ((valN (vals l) : Nat), 0, 0) else (0, 12, 0)
def intO (l : List UInt8) : Int × Int × Int :=
  if (uintO (l.drop (sg l))).2.1 = 11 then (0, 11, (uintO (l.drop (sg l))).2.2 + (sg l : Nat))
  else ((if sg l = 1 then -(uintO (l.drop (sg l))).1 else (uintO (l.drop (sg l))).1), (uintO (l.drop (sg l))).2.1, 0)
/-- as the program has it -/
def wholeO (l : List UInt8) (k : Nat) : Int × Int × Int :=
  if k + dgN (l.drop k) < l.length then (0, 11, ((k + dgN (l.drop k) : Nat) : Int)) else ((parse l).1.1, (parse l).2.1, (parse l).2.2)

theorem dgN_all {l : List UInt8} (h : dgN l = l.length) : l.takeWhile dg = l := by
  rw [← dgN_take, h, List.take_length]
theorem parse_whole (l : List UInt8) (h : pt l = l.length) :
    ((parse l).1.1, (parse l).2.1, (parse l).2.2) = if dgN (l.drop (sg l)) = 0 then ((0 : Int), (11 : Int), ((sg l : Nat) : Int))
      else if valN (vals (l.drop (sg l))) ≤ big then ((if sg l = 1 then -((valN (vals (l.drop (sg l))) : Nat) : Int) else ((valN (vals (l.drop (sg l))) : Nat) : Int)), 0, 0) else (0, 12, 0) := by
  have hp : sg l + dgN (l.drop (sg l)) = l.length := h
  have hd : dgN (l.drop (sg l)) = (l.drop (sg l)).length := by rw [List.length_drop]; omega
  by_cases h0 : dgN (l.drop (sg l)) = 0
  · rw [if_pos h0]
    have hc : cut l = .bad (pt l) := by unfold cut; rw [if_pos (by unfold pt; omega)]
    rw [parse_bad hc]
    have : pt l = sg l := by unfold pt; omega
    rw [this]
  · rw [if_neg h0]
    have hc : cut l = .ok (decide (sg l = 1)) (l.drop (sg l)) [] := by
      unfold cut
      rw [if_neg (by unfold pt; omega), if_pos h, dgN_all hd]
    rw [parse_ok hc]
    simp only [List.append_nil, List.length_nil]
    generalize valN (vals (l.drop (sg l))) = n
    have e : decOf (decide (sg l = 1)) n ((0 : Nat) : Int) = if n ≤ big then some ((if sg l = 1 then -(n : Int) else (n : Int)), 0) else none := by
      unfold decOf
      rw [if_neg (by omega)]
      by_cases hn : n = 0
      · subst hn
        rw [if_pos rfl, if_pos (by unfold big; omega)]
        by_cases hs : sg l = 1 <;> simp [hs]
      · rw [if_neg hn, show ((0 : Nat) : Int).toNat = 0 from rfl, strip_id 0 n (Or.inl rfl)]
        by_cases hb : n ≤ big
        · rw [if_pos ⟨hb, by omega⟩, if_pos hb]
          by_cases hs : sg l = 1 <;> simp [hs]
        · rw [if_neg (fun h => hb h.1), if_neg hb]
    rw [e]
    by_cases hb : n ≤ big
    · rw [if_pos hb, if_pos hb]
    · rw [if_neg hb, if_neg hb]

theorem uint_bad {l : List UInt8} (h : dgN l = 0 ∨ dgN l < l.length) : uintO l = ((0 : Int), (11 : Int), ((dgN l : Nat) : Int)) := by unfold uintO; rw [if_pos h]
theorem uint_ok {l : List UInt8} (h0 : ¬ dgN l = 0) (h1 : ¬ dgN l < l.length) (h : valN (vals l) ≤ big) : uintO l = (((valN (vals l) : Nat) : Int), 0, 0) := by
  unfold uintO; rw [if_neg (fun e => e.elim h0 h1), if_pos h]
theorem uint_far {l : List UInt8} (h0 : ¬ dgN l = 0) (h1 : ¬ dgN l < l.length) (h : ¬ valN (vals l) ≤ big) : uintO l = (0, 12, 0) := by
  unfold uintO; rw [if_neg (fun e => e.elim h0 h1), if_neg h]
theorem whole_int (l : List UInt8) : wholeO l (sg l) = intO l := by
  unfold wholeO intO
  by_cases h : sg l + dgN (l.drop (sg l)) < l.length
  · rw [if_pos h]
    have : dgN (l.drop (sg l)) < (l.drop (sg l)).length := by rw [List.length_drop]; omega
    rw [uint_bad (Or.inr this), if_pos rfl]
    simp; omega
  · have hp : pt l = l.length := by have := pt_le l; unfold pt at this ⊢; omega
    rw [if_neg h, parse_whole l hp]
    have hn : ¬ dgN (l.drop (sg l)) < (l.drop (sg l)).length := by rw [List.length_drop]; omega
    by_cases h0 : dgN (l.drop (sg l)) = 0
    · rw [if_pos h0, uint_bad (Or.inl h0), if_pos rfl]
      simp [h0]
    · rw [if_neg h0]
      by_cases hb : valN (vals (l.drop (sg l))) ≤ big
      · rw [if_pos hb, uint_ok h0 hn hb]
        show _ = if (0 : Int) = 11 then _ else _
        rw [if_neg (show ¬ (0 : Int) = 11 by decide)]
      · rw [if_neg hb, uint_far h0 hn hb, if_neg (by simp)]
        simp
theorem sg_of_dg {l : List UInt8} (h : dgN l = l.length) : sg l = 0 := by
  rcases sg_cases l with ⟨r, rfl, _⟩ | ⟨h0, _⟩
  · rw [dgN_cons, if_neg (by decide)] at h; simp at h
  · exact h0
theorem whole_uint (l : List UInt8) : wholeO l 0 = uintO l := by
  unfold wholeO
  simp only [List.drop_zero, Nat.zero_add]
  by_cases h : dgN l < l.length
  · rw [if_pos h, uint_bad (Or.inr h)]
  · have hd : dgN l = l.length := by have := dgN_le l; omega
    have hs := sg_of_dg hd
    have hp : pt l = l.length := by unfold pt; rw [hs, List.drop_zero]; omega
    rw [if_neg h, parse_whole l hp, hs, List.drop_zero]
    by_cases h0 : dgN l = 0
    · rw [if_pos h0, uint_bad (Or.inl h0), h0]
    · rw [if_neg h0]
      by_cases hb : valN (vals l) ≤ big
      · rw [if_pos hb, uint_ok h0 h hb, if_neg (by omega)]
      · rw [if_neg hb, uint_far h0 h hb]

/-- times -/
def isT (x : Int) : Bool := decide (-1125899906842624 ≤ x) && decide (x ≤ 1125899906842624)
theorem isT_iff (x : Int) : isT x = true ↔ -1125899906842624 ≤ x ∧ x ≤ 1125899906842624 := by unfold isT; simp
def isU (u : Int) : Bool := decide (0 ≤ u) && decide (u < 4)
theorem isU_iff (u : Int) : isU u = true ↔ 0 ≤ u ∧ u < 4 := by unfold isU; simp
def timeO (o : Option Int) : Option Int := match o with | some t => if isT t = true then some t else none | none => none
def secO (m s : Int) : Option Int := timeO (scaledO m s 3)
def msO (n u : Int) : Option Int :=
  if isU u = true then (match decOf (decide (n < 0)) n.natAbs (3 * u) with | some (m, k) => secO m k | none => none) else none
def sOf (x : Int) : Option (Int × Nat) := if isT x = true then decOf (decide (x < 0)) x.natAbs 3 else none
def ofO (x u : Int) : Option Int :=
  match sOf x with | some (m, k) => if isU u = true then scaledO m k (3 * u) else none | none => none
def textO (x : Int) : List UInt8 := match sOf x with | some (m, k) => printL m k | none => []

theorem timeO_iff (o : Option Int) (t : Int) : timeO o = some t ↔ o = some t ∧ isT t = true := by
  unfold timeO
  cases o with
  | none => simp
  | some x =>
    by_cases h : isT x = true
    · simp only [if_pos h, Option.some.injEq]; constructor
      · rintro rfl; exact ⟨rfl, h⟩
      · exact fun e => e.1
    · simp only [if_neg h, Option.some.injEq]; constructor
      · intro e; cases e
      · rintro ⟨rfl, e⟩; exact absurd e h

/-- a number at p digits behind the point, with what it is -/
theorem decOf_num {n : Int} {p : Nat} {m : Int} {k : Nat} (h : decOf (decide (n < 0)) n.natAbs p = some (m, k)) :
    k ≤ p ∧ k ≤ 18 ∧ m * 10 ^ (p - k) = n ∧ goodD m k = true ∧ m.natAbs ≤ big := by
  obtain ⟨hg, hb, _, h0, h1⟩ := decOf_is h
  obtain ⟨v1, v2, v3⟩ := decOf_val h
  rw [Int.toNat_natCast] at v3
  refine ⟨by omega, v2, ?_, hg, hb⟩
  have hpos : (0 : Int) < 10 ^ (p - k) := pwI _
  have habs : (m * 10 ^ (p - k)).natAbs = n.natAbs := by
    rw [Int.natAbs_mul, Int.natAbs_pow]; exact v3
  by_cases hn : n = 0
  · subst hn
    obtain ⟨rfl, _⟩ := h0 rfl
    simp
  · obtain ⟨hm, hs⟩ := h1 (by omega)
    rcases Int.natAbs_eq_natAbs_iff.1 habs with e | e
    · exact e
    · exfalso
      by_cases hlt : n < 0
      · have hml : m < 0 := by
          have : decide (m < 0) = true := by rw [hs]; simpa using hlt
          simpa using this
        have : m * 10 ^ (p - k) < 0 := Int.mul_neg_of_neg_of_pos hml hpos
        omega
      · have hml : ¬ m < 0 := by
          have : decide (m < 0) = false := by rw [hs]; simpa using hlt
          simpa using this
        have : 0 ≤ m * 10 ^ (p - k) := Int.mul_nonneg (by omega) (by omega)
        omega
theorem good_last {m : Int} {k : Nat} (h : goodD m k = true) (hk : k ≠ 0) : ¬ m % 10 = 0 := by
  obtain ⟨_, _, _, h⟩ := (goodD_iff m k).1 h
  rcases h with h | h
  · omega
  · intro e; exact h (by rw [tmod_abs]; omega)
theorem dec_some (n : Int) (p : Nat) (hn : n.natAbs ≤ big) (hp : p ≤ 18) : ∃ m k, decOf (decide (n < 0)) n.natAbs p = some (m, k) := by
  obtain ⟨⟨m, k⟩, h⟩ := decOf_some (decide (n < 0)) n.natAbs p hn (by omega) (by omega)
  exact ⟨m, k, h⟩
theorem pw10 (i : Nat) : (10 : Int) ^ i ≠ 0 := by have := pwI i; omega
/-- the number at q digits, where it is whole there -/
theorem at_iff {n : Int} {p q : Nat} (hq : q ≤ 18) {m : Int} {k : Nat} (h : decOf (decide (n < 0)) n.natAbs p = some (m, k)) (t : Int) :
    scaledO m k q = some t ↔ t * 10 ^ p = n * 10 ^ q ∧ t.natAbs ≤ big := by
  obtain ⟨h1, h2, h3, h4, h5⟩ := decOf_num h
  unfold scaledO
  constructor
  · intro e
    split at e
    · rename_i c
      obtain ⟨_, c2, _, c4⟩ := c
      cases e
      have hkq : k ≤ q := by omega
      rw [show ((q : Int) - k).toNat = q - k by omega] at c4 ⊢
      refine ⟨?_, by rw [Int.natAbs_mul, Int.natAbs_pow]; exact c4⟩
      rw [← h3, show p = (p - k) + k by omega, Int.pow_add, show (p - k) + k - k = p - k by omega]
      rw [show (10 : Int) ^ q = 10 ^ (q - k) * 10 ^ k by rw [← Int.pow_add]; congr 1; omega]
      simp only [Int.mul_assoc, Int.mul_left_comm, Int.mul_comm]
    · cases e
  · rintro ⟨e, hb⟩
    -- t * 10^p = m * 10^(p-k) * 10^q
    have e2 : t * 10 ^ k = m * 10 ^ q := by
      have : (t * 10 ^ k) * 10 ^ (p - k) = (m * 10 ^ q) * 10 ^ (p - k) := by
        rw [Int.mul_assoc, ← Int.pow_add, show k + (p - k) = p by omega, e, ← h3]
        simp only [Int.mul_assoc, Int.mul_left_comm, Int.mul_comm]
      exact Int.eq_of_mul_eq_mul_right (pw10 _) this
    have hkq : k ≤ q := by
      refine Classical.byContradiction fun hno => ?_
      have e3 : t * 10 ^ (k - q) = m := by
        have : (t * 10 ^ (k - q)) * 10 ^ q = m * 10 ^ q := by
          rw [Int.mul_assoc, ← Int.pow_add, show k - q + q = k by omega, e2]
        exact Int.eq_of_mul_eq_mul_right (pw10 _) this
      refine good_last h4 (by omega) ?_
      rw [← e3, show k - q = (k - q - 1) + 1 by omega, Int.pow_succ, ← Int.mul_assoc]
      omega
    have e3 : t = m * 10 ^ (q - k) := by
      have : t * 10 ^ k = (m * 10 ^ (q - k)) * 10 ^ k := by
        rw [Int.mul_assoc, ← Int.pow_add, show q - k + k = q by omega, e2]
      exact Int.eq_of_mul_eq_mul_right (pw10 _) this
    rw [show ((q : Int) - k).toNat = q - k by omega, if_pos ⟨h4, by omega, by omega, by rw [e3, Int.natAbs_mul, Int.natAbs_pow] at hb; exact hb⟩, e3]

theorem isT_abs {t : Int} (h : isT t = true) : t.natAbs ≤ 1125899906842624 := by have := (isT_iff t).1 h; omega
/-- what Ms says: the time t with t / 10^3 s = n / 10^(3u) s -/
theorem msO_iff (n : Int) (u : Nat) (hu : u < 4) (h1 : -9223372036854775808 ≤ n) (h2 : n ≤ 9223372036854775807) (t : Int) : msO n u = some t ↔ t * 10 ^ (3 * u) = n * 1000 ∧ isT t = true := by
  unfold msO
  rw [if_pos ((isU_iff _).2 ⟨by omega, by omega⟩)]
  have e3 : (3 : Int) * (u : Int) = ((3 * u : Nat) : Int) := by omega
  rw [e3]
  by_cases hm : n = -9223372036854775808
  · subst hm
    have hd : decOf (decide ((-9223372036854775808 : Int) < 0)) (-9223372036854775808 : Int).natAbs ((3 * u : Nat) : Int) = none := by
      unfold decOf
      rw [if_neg (by omega), if_neg (by decide), Int.toNat_natCast, strip_id _ _ (Or.inr (by decide)), if_neg (fun h => absurd (show (-9223372036854775808 : Int).natAbs ≤ big from h.1) (by decide))]
    rw [hd]
    constructor
    · intro h; cases h
    · rintro ⟨h, ht⟩
      have := (isT_iff t).1 ht
      exfalso
      have : u = 0 ∨ u = 1 ∨ u = 2 ∨ u = 3 := by omega
      rcases this with rfl | rfl | rfl | rfl <;> simp at h <;> omega
  · obtain ⟨m, k, hd⟩ := dec_some n (3 * u) (by unfold big; omega) (by omega)
    rw [hd]
    show secO m k = some t ↔ _
    have hi := at_iff (q := 3) (by omega) hd t
    unfold secO
    rw [timeO_iff, show (3 : Int) = ((3 : Nat) : Int) from rfl, hi]
    constructor
    · rintro ⟨⟨a, _⟩, b⟩; exact ⟨a, b⟩
    · rintro ⟨a, b⟩; exact ⟨⟨a, by have := isT_abs b; unfold big; omega⟩, b⟩
theorem msO_none (n u : Int) (h : ¬ (0 ≤ u ∧ u < 4)) : msO n u = none := by unfold msO; rw [if_neg (fun e => h ((isU_iff u).1 e))]
theorem sOf_some {x : Int} (h : isT x = true) : ∃ m k, sOf x = some (m, k) ∧ decOf (decide (x < 0)) x.natAbs ((3 : Nat) : Int) = some (m, k) := by
  have := isT_abs h
  obtain ⟨m, k, hd⟩ := dec_some x 3 (by unfold big; omega) (by omega)
  exact ⟨m, k, by unfold sOf; rw [if_pos h]; exact hd, hd⟩
theorem sOf_none {x : Int} (h : isT x = false) : sOf x = none := by unfold sOf; rw [h]; rfl
/-- what Of says -/
theorem ofO_iff (x : Int) (u : Nat) (hu : u < 4) (t : Int) : ofO x u = some t ↔ isT x = true ∧ t * 1000 = x * 10 ^ (3 * u) ∧ t.natAbs ≤ big := by
  unfold ofO
  cases hx : isT x with
  | false => rw [sOf_none hx]; simp
  | true =>
    obtain ⟨m, k, h1, h2⟩ := sOf_some hx
    rw [h1]
    show (if isU (u : Int) = true then scaledO m k (3 * (u : Int)) else none) = some t ↔ _
    rw [if_pos ((isU_iff _).2 ⟨by omega, by omega⟩), show (3 : Int) * (u : Int) = ((3 * u : Nat) : Int) by omega, at_iff (by omega) h2 t]
    simp
theorem ofO_none (x u : Int) (h : isT x = false ∨ ¬ (0 ≤ u ∧ u < 4)) : ofO x u = none := by
  unfold ofO
  rcases h with h | h
  · rw [sOf_none h]
  · cases sOf x with
    | none => rfl
    | some p => obtain ⟨m, k⟩ := p; show (if isU u = true then scaledO m k (3 * u) else none) = none; rw [if_neg (fun e => h ((isU_iff u).1 e))]

/-- the reference's -/
def rmsO (n u : Int) : Option Int :=
  if u = 0 then timeO (if -1125899906842624 ≤ n ∧ n ≤ 1125899906842624 then some (n * 1000) else none)
  else if u = 1 then timeO (some n)
  else if u = 2 then timeO (if n.tmod 1000 = 0 then some (n.tdiv 1000) else none)
  else if u = 3 then timeO (if n.tmod 1000000 = 0 then some (n.tdiv 1000000) else none)
  else none
def rofO (x u : Int) : Option Int :=
  if isT x = true then
    if u = 0 then (if x.tmod 1000 = 0 then some (x.tdiv 1000) else none)
    else if u = 1 then some x
    else if u = 2 then some (x * 1000)
    else if u = 3 then (if -9223372036854 ≤ x ∧ x ≤ 9223372036854 then some (x * 1000000) else none)
    else none
  else none
theorem opt_ext {a b : Option Int} (h : ∀ t, a = some t ↔ b = some t) : a = b := by
  cases a with
  | some x => exact ((h x).1 rfl).symm
  | none =>
    cases b with
    | none => rfl
    | some y => exact (h y).2 rfl
theorem tdiv_iff (n t : Int) (d : Int) (hd : 0 < d) : (if n.tmod d = 0 then some (n.tdiv d) else none) = some t ↔ t * d = n := by
  by_cases h : n.tmod d = 0
  · rw [if_pos h]
    have h2 := Int.mul_tdiv_add_tmod n d
    rw [h, Int.add_zero] at h2
    constructor
    · intro e; cases e; rw [Int.mul_comm]; exact h2
    · intro e
      congr 1
      have : d * n.tdiv d = d * t := by rw [h2, Int.mul_comm d t, e]
      exact Int.eq_of_mul_eq_mul_left (by omega) this
  · rw [if_neg h]
    constructor
    · intro e; cases e
    · intro e; exfalso; rw [← e, Int.mul_tmod_left] at h; exact h rfl
theorem msO_ref (n u : Int) (h1 : -9223372036854775808 ≤ n) (h2 : n ≤ 9223372036854775807) : rmsO n u = msO n u := by
  by_cases hu : 0 ≤ u ∧ u < 4
  · obtain ⟨k, rfl⟩ : ∃ k : Nat, u = k := ⟨u.toNat, by omega⟩
    refine opt_ext fun t => ?_
    rw [msO_iff n k (by omega) h1 h2 t]
    have : k = 0 ∨ k = 1 ∨ k = 2 ∨ k = 3 := by omega
    unfold rmsO
    rcases this with rfl | rfl | rfl | rfl
    · rw [if_pos (by rfl), timeO_iff, isT_iff]
      split <;> simp <;> omega
    · rw [if_neg (by decide), if_pos (by rfl), timeO_iff, isT_iff]
      simp; omega
    · rw [if_neg (by decide), if_neg (by decide), if_pos (by rfl), timeO_iff, tdiv_iff _ _ _ (by decide), isT_iff]
      simp; omega
    · rw [if_neg (by decide), if_neg (by decide), if_neg (by decide), if_pos (by rfl), timeO_iff, tdiv_iff _ _ _ (by decide), isT_iff]
      simp; omega
  · rw [msO_none n u hu]
    unfold rmsO
    rw [if_neg (by omega), if_neg (by omega), if_neg (by omega), if_neg (by omega)]
theorem ofO_ref (x u : Int) : rofO x u = ofO x u := by
  cases hx : isT x with
  | false => rw [ofO_none x u (Or.inl hx)]; unfold rofO; rw [hx]; rfl
  | true =>
    have hb := (isT_iff x).1 hx
    by_cases hu : 0 ≤ u ∧ u < 4
    · obtain ⟨k, rfl⟩ : ∃ k : Nat, u = k := ⟨u.toNat, by omega⟩
      refine opt_ext fun t => ?_
      rw [ofO_iff x k (by omega) t]
      have : k = 0 ∨ k = 1 ∨ k = 2 ∨ k = 3 := by omega
      unfold rofO big
      rw [if_pos hx]
      rcases this with rfl | rfl | rfl | rfl
      · rw [if_pos (by rfl), tdiv_iff _ _ _ (by decide)]
        simp [hx]; omega
      · rw [if_neg (by decide), if_pos (by rfl)]
        simp [hx]; omega
      · rw [if_neg (by decide), if_neg (by decide), if_pos (by rfl)]
        simp [hx]; omega
      · rw [if_neg (by decide), if_neg (by decide), if_neg (by decide), if_pos (by rfl)]
        simp [hx]; omega
    · rw [ofO_none x u (Or.inr hu)]
      unfold rofO
      rw [if_pos hx, if_neg (by omega), if_neg (by omega), if_neg (by omega), if_neg (by omega)]
theorem msO_b {n u t : Int} (h : msO n u = some t) : -1125899906842624 ≤ t ∧ t ≤ 1125899906842624 := by
  unfold msO at h
  split at h
  · split at h
    · unfold secO at h; exact (isT_iff t).1 ((timeO_iff _ _).1 h).2
    · cases h
  · cases h
theorem ofO_b {x u t : Int} (h : ofO x u = some t) : -9223372036854775807 ≤ t ∧ t ≤ 9223372036854775807 := by
  unfold ofO at h
  split at h
  · split at h
    · unfold scaledO at h
      split at h
      · rename_i c; cases h
        have c4 := c.2.2.2
        rename_i m k _ _
        have c5 : (m * 10 ^ (3 * u - (k : Int)).toNat).natAbs ≤ big := by rw [Int.natAbs_mul, Int.natAbs_pow]; exact c4
        unfold big at c5; omega
      · cases h
    · cases h
  · cases h

end Go.Proofs.YtmbpldnclnahmaaDoor.Dc
