/- The texts LabelPlain, PointPlain, one behind the other. -/
import Derived.Test.YtjeefgamkoeiaaaGreatDoorUtfP
import Derived.Lib.Bytealg
import Derived.Sort.Walk0
import Derived.Test.YtjeefgamkoeiaaaGreatDoorDecP

/- Labels as plain lists: the order of texts, of labels, of rows of labels; sorted rows. Nothing of the program stands here. -/
set_option maxRecDepth 100000
set_option linter.unusedVariables false
set_option linter.unusedSimpArgs false
namespace Go.Proofs.YtjeefgamkoeiaaaGreatDoor
open Go.Lib (compareBytes)

abbrev cb : List UInt8 → List UInt8 → Int := compareBytes
abbrev Lb := List UInt8 × List UInt8

theorem cb_refl : ∀ a, cb a a = 0
  | [] => rfl
  | x :: a => by
    show compareBytes (x :: a) (x :: a) = 0
    rw [compareBytes, if_neg (UInt8.lt_irrefl x), if_neg (UInt8.lt_irrefl x)]; exact cb_refl a
theorem cb_range : ∀ a b, cb a b = -1 ∨ cb a b = 0 ∨ cb a b = 1
  | [], [] => Or.inr (Or.inl rfl)
  | [], _ :: _ => Or.inl rfl
  | _ :: _, [] => Or.inr (Or.inr rfl)
  | x :: a, y :: b => by
    show compareBytes (x :: a) (y :: b) = -1 ∨ compareBytes (x :: a) (y :: b) = 0 ∨ compareBytes (x :: a) (y :: b) = 1
    rw [compareBytes]
    by_cases h : x < y
    · rw [if_pos h]; exact Or.inl rfl
    · rw [if_neg h]
      by_cases h2 : y < x
      · rw [if_pos h2]; exact Or.inr (Or.inr rfl)
      · rw [if_neg h2]; exact cb_range a b
theorem cb_neg : ∀ a b, cb b a = - cb a b
  | [], [] => rfl
  | [], _ :: _ => rfl
  | _ :: _, [] => rfl
  | x :: a, y :: b => by
    show compareBytes (y :: b) (x :: a) = - compareBytes (x :: a) (y :: b)
    rw [compareBytes, compareBytes]
    by_cases h : x < y
    · rw [if_pos h, if_neg (UInt8.lt_asymm h), if_pos h]; rfl
    · rw [if_neg h]
      by_cases h2 : y < x
      · rw [if_pos h2, if_pos h2, if_neg h]
      · rw [if_neg h2, if_neg h2, if_neg h]; exact cb_neg a b
theorem cb_eq : ∀ a b, cb a b = 0 → a = b
  | [], [] => fun _ => rfl
  | [], _ :: _ => fun h => absurd (show (-1 : Int) = 0 from h) (by decide)
  | _ :: _, [] => fun h => absurd (show (1 : Int) = 0 from h) (by decide)
  | x :: a, y :: b => fun h0 => by
    have h : compareBytes (x :: a) (y :: b) = 0 := h0
    rw [compareBytes] at h
    by_cases h1 : x < y
    · rw [if_pos h1] at h; exact absurd h (by decide)
    · rw [if_neg h1] at h
      by_cases h2 : y < x
      · rw [if_pos h2] at h; exact absurd h (by decide)
      · rw [if_neg h2] at h
        rw [UInt8.le_antisymm (UInt8.not_lt.1 h2) (UInt8.not_lt.1 h1), cb_eq a b h]
theorem cb_zero (a b : List UInt8) : cb a b = 0 ↔ a = b := ⟨cb_eq a b, fun h => by rw [h]; exact cb_refl b⟩
theorem cb_trans : ∀ a b c, cb a b < 0 → cb b c < 0 → cb a c < 0
  | [], [], _ => fun h _ => absurd (show (0 : Int) < 0 from h) (by decide)
  | [], _ :: _, [] => fun _ h => absurd (show (1 : Int) < 0 from h) (by decide)
  | [], _ :: _, _ :: _ => fun _ _ => show (-1 : Int) < 0 by decide
  | _ :: _, [], _ => fun h _ => absurd (show (1 : Int) < 0 from h) (by decide)
  | _ :: _, _ :: _, [] => fun _ h => absurd (show (1 : Int) < 0 from h) (by decide)
  | x :: a, y :: b, z :: c => fun h k => by
    have h1 : compareBytes (x :: a) (y :: b) < 0 := h
    have k1 : compareBytes (y :: b) (z :: c) < 0 := k
    show compareBytes (x :: a) (z :: c) < 0
    rw [compareBytes] at h1 k1 ⊢
    by_cases xy : x < y
    · by_cases yz : y < z
      · rw [if_pos (UInt8.lt_trans xy yz)]; decide
      · rw [if_neg yz] at k1
        by_cases zy : z < y
        · rw [if_pos zy] at k1; exact absurd k1 (by decide)
        · have e : y = z := UInt8.le_antisymm (UInt8.not_lt.1 zy) (UInt8.not_lt.1 yz)
          rw [← e, if_pos xy]; decide
    · rw [if_neg xy] at h1
      by_cases yx : y < x
      · rw [if_pos yx] at h1; exact absurd h1 (by decide)
      · rw [if_neg yx] at h1
        have e : x = y := UInt8.le_antisymm (UInt8.not_lt.1 yx) (UInt8.not_lt.1 xy)
        subst e
        by_cases yz : x < z
        · rw [if_pos yz]; decide
        · rw [if_neg yz] at k1 ⊢
          by_cases zy : z < x
          · rw [if_pos zy] at k1; exact absurd k1 (by decide)
          · rw [if_neg zy] at k1 ⊢
            exact cb_trans a b c h1 k1
theorem bl_cb : ∀ a b : List UInt8, Op.bytesLess a b = decide (cb a b < 0)
  | [], [] => by rfl
  | _ :: _, [] => by rfl
  | [], _ :: _ => by rfl
  | x :: a, y :: b => by
    show _ = decide (compareBytes (x :: a) (y :: b) < 0)
    rw [Op.bytesLess, compareBytes, bl_cb a b]
    by_cases h : x < y
    · rw [if_pos h]; simp [h]
    · rw [if_neg h]
      by_cases h2 : y < x
      · rw [if_pos h2]
        have : (x == y) = false := by
          rw [beq_eq_false_iff_ne]; intro e; subst e; exact h h2
        simp [h, this]
      · rw [if_neg h2]
        have e : x = y := UInt8.le_antisymm (UInt8.not_lt.1 h2) (UInt8.not_lt.1 h)
        subst e
        simp [UInt8.lt_irrefl]
theorem cb_le_trans {a b c : List UInt8} (h : cb a b ≤ 0) (k : cb b c ≤ 0) : cb a c ≤ 0 := by
  rcases cb_range a b with h1 | h1 | h1
  · rcases cb_range b c with k1 | k1 | k1
    · exact Int.le_of_lt (cb_trans a b c (by omega) (by omega))
    · rw [← cb_eq b c k1]; omega
    · omega
  · rw [cb_eq a b h1]; exact k
  · omega

/-- of two labels the lesser by the names, then by the values -/
def lbc (x y : Lb) : Int := if cb x.1 y.1 = 0 then cb x.2 y.2 else cb x.1 y.1
theorem lbc_range (x y : Lb) : lbc x y = -1 ∨ lbc x y = 0 ∨ lbc x y = 1 := by unfold lbc; split <;> exact cb_range _ _
theorem lbc_neg (x y : Lb) : lbc y x = - lbc x y := by
  unfold lbc
  rw [cb_neg x.1 y.1, cb_neg x.2 y.2]
  by_cases h : cb x.1 y.1 = 0
  · rw [if_pos h, if_pos (by omega)]
  · rw [if_neg h, if_neg (by omega)]
theorem lbc_eq {x y : Lb} (h : lbc x y = 0) : x = y := by
  unfold lbc at h
  by_cases h1 : cb x.1 y.1 = 0
  · rw [if_pos h1] at h
    exact Prod.ext (cb_eq _ _ h1) (cb_eq _ _ h)
  · rw [if_neg h1] at h; exact absurd h h1
theorem lbc_trans {x y z : Lb} (h : lbc x y < 0) (k : lbc y z < 0) : lbc x z < 0 := by
  unfold lbc at h k ⊢
  by_cases h1 : cb x.1 y.1 = 0
  · rw [if_pos h1] at h
    have e := cb_eq _ _ h1
    rw [e]
    by_cases k1 : cb y.1 z.1 = 0
    · rw [if_pos k1] at k ⊢; exact cb_trans _ _ _ h k
    · rw [if_neg k1] at k ⊢; exact k
  · rw [if_neg h1] at h
    by_cases k1 : cb y.1 z.1 = 0
    · rw [← cb_eq _ _ k1, if_neg h1]; exact h
    · rw [if_neg k1] at k
      have t := cb_trans _ _ _ h k
      rw [if_neg (by omega)]; exact t
/-- of two rows of labels -/
def cmpL : List Lb → List Lb → Int
  | [], [] => 0
  | [], _ :: _ => -1
  | _ :: _, [] => 1
  | x :: a, y :: b => if lbc x y = 0 then cmpL a b else lbc x y
theorem cmpL_range : ∀ a b, cmpL a b = -1 ∨ cmpL a b = 0 ∨ cmpL a b = 1
  | [], [] => Or.inr (Or.inl rfl)
  | [], _ :: _ => Or.inl rfl
  | _ :: _, [] => Or.inr (Or.inr rfl)
  | x :: a, y :: b => by
    rw [cmpL]; split
    · exact cmpL_range a b
    · exact lbc_range x y
theorem cmpL_neg : ∀ a b, cmpL b a = - cmpL a b
  | [], [] => rfl
  | [], _ :: _ => rfl
  | _ :: _, [] => rfl
  | x :: a, y :: b => by
    rw [cmpL, cmpL, lbc_neg x y]
    by_cases h : lbc x y = 0
    · rw [if_pos h, if_pos (by omega)]; exact cmpL_neg a b
    · rw [if_neg h, if_neg (by omega)]
theorem cmpL_eq : ∀ a b, cmpL a b = 0 → a = b
  | [], [] => fun _ => rfl
  | [], _ :: _ => fun h => absurd (show (-1 : Int) = 0 from h) (by decide)
  | _ :: _, [] => fun h => absurd (show (1 : Int) = 0 from h) (by decide)
  | x :: a, y :: b => fun h => by
    rw [cmpL] at h
    by_cases h1 : lbc x y = 0
    · rw [if_pos h1] at h; rw [lbc_eq h1, cmpL_eq a b h]
    · rw [if_neg h1] at h; exact absurd h h1
theorem cmpL_trans : ∀ a b c, cmpL a b < 0 → cmpL b c < 0 → cmpL a c < 0
  | [], [], _ => fun h _ => absurd (show (0 : Int) < 0 from h) (by decide)
  | [], _ :: _, [] => fun _ h => absurd (show (1 : Int) < 0 from h) (by decide)
  | [], _ :: _, _ :: _ => fun _ _ => show (-1 : Int) < 0 by decide
  | _ :: _, [], _ => fun h _ => absurd (show (1 : Int) < 0 from h) (by decide)
  | _ :: _, _ :: _, [] => fun _ h => absurd (show (1 : Int) < 0 from h) (by decide)
  | x :: a, y :: b, z :: c => fun h k => by
    rw [cmpL] at h k ⊢
    by_cases h1 : lbc x y = 0
    · rw [if_pos h1] at h
      rw [lbc_eq h1]
      by_cases k1 : lbc y z = 0
      · rw [if_pos k1] at k ⊢; exact cmpL_trans a b c h k
      · rw [if_neg k1] at k ⊢; exact k
    · rw [if_neg h1] at h
      by_cases k1 : lbc y z = 0
      · rw [← lbc_eq k1, if_neg h1]; exact h
      · rw [if_neg k1] at k
        have t := lbc_trans h k
        rw [if_neg (by omega)]; exact t
theorem cmpL_le_trans (a b c : List Lb) (h : cmpL a b ≤ 0) (k : cmpL b c ≤ 0) : cmpL a c ≤ 0 := by
  rcases cmpL_range a b with h1 | h1 | h1
  · rcases cmpL_range b c with k1 | k1 | k1
    · exact Int.le_of_lt (cmpL_trans a b c (by omega) (by omega))
    · rw [← cmpL_eq b c k1]; omega
    · omega
  · rw [cmpL_eq a b h1]; exact k
  · omega
/-- one step of the comparison at a place -/
theorem cmpL_at {a b : List Lb} {i : Nat} (ha : i < a.length) (hb : i < b.length) (h : cmpL a b = cmpL (a.drop i) (b.drop i)) :
    (lbc a[i] b[i] = 0 → cmpL a b = cmpL (a.drop (i + 1)) (b.drop (i + 1))) ∧ (lbc a[i] b[i] ≠ 0 → cmpL a b = lbc a[i] b[i]) := by
  rw [List.drop_eq_getElem_cons ha, List.drop_eq_getElem_cons hb, cmpL] at h
  exact ⟨fun e => by rw [if_pos e] at h; exact h, fun e => by rw [if_neg e] at h; exact h⟩
theorem cmpL_end {a b : List Lb} {i : Nat} (h : cmpL a b = cmpL (a.drop i) (b.drop i)) :
    (a.length ≤ i → i < b.length → cmpL a b = -1) ∧ (b.length ≤ i → i < a.length → cmpL a b = 1) ∧ (a.length ≤ i → b.length ≤ i → cmpL a b = 0) := by
  refine ⟨fun h1 h2 => ?_, fun h1 h2 => ?_, fun h1 h2 => ?_⟩
  · rw [h, List.drop_eq_nil_of_le h1, List.drop_eq_getElem_cons h2]; rfl
  · rw [h, List.drop_eq_nil_of_le h1, List.drop_eq_getElem_cons h2]; rfl
  · rw [h, List.drop_eq_nil_of_le h1, List.drop_eq_nil_of_le h2]; rfl

/-- a name, a value -/
def ctl (s : List UInt8) : Bool := s.any fun c => decide (c < 32) || decide (c = 127)
def nameOk (s : List UInt8) : Bool := decide (1 ≤ s.length) && decide (s.length ≤ 60) && decide (Utf.bad s < 0) && !ctl s
def valueOk (s : List UInt8) : Bool := decide (s.length ≤ 60) && decide (Utf.bad s < 0)
def lbAt (l : List Lb) (i : Nat) : Lb := l.getD i ([], [])
theorem lbAt_of {l : List Lb} {i : Nat} (h : i < l.length) : lbAt l i = l[i] := by
  unfold lbAt; rw [List.getD_eq_getElem?_getD, List.getElem?_eq_getElem h]; rfl
theorem at_get {l : List Lb} {i : Nat} (h : i < l.length) : l[i]? = some (lbAt l i) := by rw [lbAt_of h, List.getElem?_eq_getElem h]
theorem at_mem {l : List Lb} {i : Nat} (h : i < l.length) : lbAt l i ∈ l := by rw [lbAt_of h]; exact List.getElem_mem h
def goodAt (l : List Lb) (i : Nat) : Bool := nameOk (lbAt l i).1 && valueOk (lbAt l i).2 && (decide (i = 0) || decide (cb (lbAt l (i - 1)).1 (lbAt l i).1 < 0))
def goodTo (l : List Lb) (k : Nat) : Bool := (List.range k).all (goodAt l)
def goodL (l : List Lb) : Bool := decide (l.length ≤ 8) && goodTo l l.length
theorem goodTo_succ {l : List Lb} {k : Nat} (h : goodTo l k = true) : goodTo l (k + 1) = goodAt l k := by
  unfold goodTo at h ⊢
  rw [List.range_succ, List.all_append, h]; simp
theorem goodL_no {l : List Lb} {k : Nat} (hk : k < l.length) (h : goodAt l k = false) : goodL l = false := by
  unfold goodL goodTo
  rw [Bool.and_eq_false_iff]
  right
  rw [List.all_eq_false]
  exact ⟨k, List.mem_range.2 hk, by rw [h]; decide⟩
theorem goodL_yes {l : List Lb} (h : l.length ≤ 8) (k : goodTo l l.length = true) : goodL l = true := by
  unfold goodL; rw [k, decide_eq_true h]; rfl
theorem goodL_long {l : List Lb} (h : 8 < l.length) : goodL l = false := by
  unfold goodL; rw [decide_eq_false (by omega)]; rfl

/-- the value of the first label of that name -/
def getL (l : List Lb) (n : List UInt8) : List UInt8 × Bool :=
  match l with
  | [] => ([], false)
  | x :: l => if x.1 = n then (x.2, true) else getL l n
theorem getL_at {l : List Lb} {n : List UInt8} {i : Nat} (hi : i < l.length) (h : getL l n = getL (l.drop i) n) :
    ((lbAt l i).1 = n → getL l n = ((lbAt l i).2, true)) ∧ ((lbAt l i).1 ≠ n → getL l n = getL (l.drop (i + 1)) n) := by
  rw [List.drop_eq_getElem_cons hi, getL, ← lbAt_of hi] at h
  exact ⟨fun e => by rw [if_pos e] at h; exact h, fun e => by rw [if_neg e] at h; exact h⟩
theorem getL_end {l : List Lb} {n : List UInt8} {i : Nat} (hi : l.length ≤ i) (h : getL l n = getL (l.drop i) n) : getL l n = ([], false) := by
  rw [h, List.drop_eq_nil_of_le hi]; rfl
end Go.Proofs.YtjeefgamkoeiaaaGreatDoor

/- Points in plain words: what may be, their order. -/
set_option maxRecDepth 100000
set_option linter.unusedVariables false
set_option linter.unusedSimpArgs false
namespace Go.Proofs.YtjeefgamkoeiaaaGreatDoor
open Dc

/-- a point: its labels, role, bound, value, time -/
structure Pt where
  l : List Lb
  ro : Int
  inf : Bool
  bm : Int
  bs : Int
  m : Int
  s : Int
  td : Bool
  ti : Int

/-- the first that is not 0 -/
def orL : List Int → Int
  | [] => 0
  | x :: l => if x = 0 then orL l else x
theorem orL_yes {l : List Int} {k : Nat} {x : Int} (hk : l[k]? = some x) (h : orL l = orL (l.drop k)) (hx : x = 0) : orL l = orL (l.drop (k + 1)) := by
  obtain ⟨hl, rfl⟩ := List.getElem?_eq_some_iff.1 hk
  rw [h, List.drop_eq_getElem_cons hl, orL, if_pos hx]
theorem orL_no {l : List Int} {k : Nat} {x : Int} (hk : l[k]? = some x) (h : orL l = orL (l.drop k)) (hx : x ≠ 0) : orL l = x := by
  obtain ⟨hl, rfl⟩ := List.getElem?_eq_some_iff.1 hk
  rw [h, List.drop_eq_getElem_cons hl, orL, if_neg hx]
theorem orL_end {l : List Int} {k : Nat} (hk : l.length ≤ k) (h : orL l = orL (l.drop k)) : orL l = 0 := by
  rw [h, List.drop_of_length_le hk, orL]

/-- false ahead of true -/
def ffI (a b : Bool) : Int := if a = b then 0 else if b = true then -1 else 1
/-- the order of points -/
def cmpPL (p q : Pt) : List Int := [cmpL p.l q.l, ffI p.td q.td, ord3 p.ti q.ti, ord3 p.ro q.ro, ffI p.inf q.inf, cmpO p.bm p.bs q.bm q.bs]
def cmpP (p q : Pt) : Int := orL (cmpPL p q)
/-- the same point, of the same value -/
def sameP (p q : Pt) : Bool := decide (p.m = q.m ∧ p.s = q.s) && decide (cmpP p q = 0)

/-- the roles of a kind -/
def rolesL (k : Int) : List Int := if k = 0 ∨ k = 1 ∨ k = 2 then [0] else if k = 3 then [1, 3, 4] else if k = 4 then [2, 3, 4] else []
/-- is the number among them? -/
def memI : List Int → Int → Bool
  | [], _ => false
  | x :: l, y => decide (x = y) || memI l y
theorem memI_yes {l : List Int} {k : Nat} {x y : Int} (hk : l[k]? = some x) (h : memI l y = memI (l.drop k) y) (hx : x = y) : memI l y = true := by
  obtain ⟨hl, rfl⟩ := List.getElem?_eq_some_iff.1 hk
  rw [h, List.drop_eq_getElem_cons hl, memI, decide_eq_true hx]; rfl
theorem memI_no {l : List Int} {k : Nat} {x y : Int} (hk : l[k]? = some x) (h : memI l y = memI (l.drop k) y) (hx : ¬ x = y) : memI l y = memI (l.drop (k + 1)) y := by
  obtain ⟨hl, rfl⟩ := List.getElem?_eq_some_iff.1 hk
  rw [h, List.drop_eq_getElem_cons hl, memI, decide_eq_false hx]; rfl
theorem memI_end {l : List Int} {k : Nat} {y : Int} (hk : l.length ≤ k) (h : memI l y = memI (l.drop k) y) : memI l y = false := by
  rw [h, List.drop_of_length_le hk, memI]

def leB : List UInt8 := [108, 101]
def quB : List UInt8 := [113, 117, 97, 110, 116, 105, 108, 101]
def infOk (p : Pt) : Bool := !p.inf || decide (p.ro = 1)
def bndOk (p : Pt) : Bool :=
  if p.ro = 1 ∧ p.inf = false then goodD p.bm p.bs
  else if p.ro = 2 then goodD p.bm p.bs && !decide (cmpO p.bm p.bs 0 0 < 0) && decide (cmpO p.bm p.bs 1 0 ≤ 0)
  else decide (p.bm = 0 ∧ p.bs = 0)
def cntOf (k r : Int) : Bool := decide (k = 2) || decide (r = 1) || decide (r = 3)
def valOk (k : Int) (p : Pt) : Bool := goodD p.m p.s && !(cntOf k p.ro && decide (cmpO p.m p.s 0 0 < 0))
def timOk (p : Pt) : Bool := if p.td = true then isT p.ti else decide (p.ti = 0)
def hasB (p : Pt) : Bool := if p.ro = 1 then (getL p.l leB).2 else if p.ro = 2 then (getL p.l quB).2 else false
/-- may it be a point of that kind? -/
def ptOk (k : Int) (p : Pt) : Bool := memI (rolesL k) p.ro && goodL p.l && infOk p && bndOk p && valOk k p && timOk p && !hasB p

theorem good_zero : goodD 0 0 = true := by decide
theorem cmpO_zero {m s : Int} (h : goodD m s = true) : decide (cmpO m s 0 0 < 0) = decide (m < 0) := by
  unfold cmpO
  rw [orZ_good h, orZ_good good_zero]
  simp only [zv_zero]
  rw [decide_eq_decide, ← zv_neg m s]
  rcases ord3_cases (zv m s) 0 with ⟨a, b⟩ | ⟨a, b⟩ | ⟨a, b⟩ <;> rw [b] <;> omega
theorem ms_one (n : Int) (h1 : -9223372036854775808 ≤ n) (h2 : n ≤ 9223372036854775807) : msO n 1 = if isT n = true then some n else none := by
  refine opt_ext fun t => ?_
  have h := msO_iff n 1 (by omega) h1 h2 t
  rw [show ((1 : Nat) : Int) = 1 from rfl] at h
  rw [h, show (10 : Int) ^ (3 * 1) = 1000 by decide]
  constructor
  · rintro ⟨a, b⟩
    obtain rfl : t = n := by omega
    rw [if_pos b]
  · intro a
    split at a
    · rename_i hn
      obtain rfl : n = t := by simpa using a
      exact ⟨rfl, hn⟩
    · cases a

end Go.Proofs.YtjeefgamkoeiaaaGreatDoor
