/- What a line begins with, in plain words, as package openword looks for it (layer 17). -/
import Derived.Test.YthniemoganoapaaDoorOpPlain
set_option maxRecDepth 100000
set_option linter.unusedVariables false
set_option linter.unusedSimpArgs false
namespace Go.Proofs.YthniemoganoapaaDoor
namespace Ow
open Utf

/-- how many bytes both begin with -/
def com : List UInt8 → List UInt8 → Nat
  | a :: l, b :: t => if a = b then com l t + 1 else 0
  | _, _ => 0
theorem com_le : ∀ (l t : List UInt8), com l t ≤ l.length ∧ com l t ≤ t.length
  | [], _ => ⟨Nat.zero_le _, Nat.zero_le _⟩
  | _ :: _, [] => ⟨Nat.zero_le _, Nat.zero_le _⟩
  | a :: l, b :: t => by
    have := com_le l t
    unfold com
    split
    · simp only [List.length_cons]; omega
    · exact ⟨Nat.zero_le _, Nat.zero_le _⟩
theorem com_step {l t : List UInt8} {n : Nat} (h1 : n < l.length) (h2 : n < t.length) (e : l[n] = t[n]) : com (l.drop n) (t.drop n) = com (l.drop (n + 1)) (t.drop (n + 1)) + 1 := by
  rw [List.drop_eq_getElem_cons h1, List.drop_eq_getElem_cons h2]; simp only [com]; rw [if_pos e]
theorem com_stop {l t : List UInt8} {n : Nat} (h : ∀ (h1 : n < l.length) (h2 : n < t.length), l[n] ≠ t[n]) : com (l.drop n) (t.drop n) = 0 := by
  by_cases h1 : n < l.length
  · by_cases h2 : n < t.length
    · rw [List.drop_eq_getElem_cons h1, List.drop_eq_getElem_cons h2]; simp only [com]; rw [if_neg (h h1 h2)]
    · rw [List.drop_eq_nil_iff.2 (show t.length ≤ n by omega)]; cases l.drop n <;> rfl
  · rw [List.drop_eq_nil_iff.2 (show l.length ≤ n by omega)]; rfl
/-- just these bytes, by how many both begin with -/
theorem lit_com : ∀ (t l : List UInt8), lit t l = if com l t = t.length then .ok () (l.drop (com l t)) else .fell (l.drop (com l t))
  | [], [] => rfl
  | [], _ :: _ => rfl
  | _ :: _, [] => rfl
  | b :: t, a :: l => by
    by_cases h : a = b
    · have e : com (a :: l) (b :: t) = com l t + 1 := by show (if a = b then com l t + 1 else 0) = _; rw [if_pos h]
      rw [show lit (b :: t) (a :: l) = lit t l by simp only [lit, if_pos h], e, lit_com t l]
      by_cases q : com l t = t.length
      · rw [if_pos q, if_pos (by rw [q]; rfl)]; rfl
      · rw [if_neg q, if_neg (by simp only [List.length_cons]; omega)]; rfl
    · have e : com (a :: l) (b :: t) = 0 := by show (if a = b then com l t + 1 else 0) = _; rw [if_neg h]
      rw [show lit (b :: t) (a :: l) = .fell (a :: l) by simp only [lit, if_neg h], e, if_neg (by simp)]; rfl
def sts : List (List UInt8) := [[], [35, 32, 84, 89, 80, 69, 32], [35, 32, 85, 78, 73, 84, 32], [35, 32, 72, 69, 76, 80, 32], [35, 32, 69, 79, 70]]
/-- which one it is, whether there is one, how many bytes it takes -/
def startF (l : List UInt8) : List (List UInt8) → Nat → Nat → Nat × Bool × Nat
  | [], _, m => (0, m == 0, m)
  | t :: ts, k, m => if 0 < com l t ∧ com l t = t.length then (k, true, com l t) else startF l ts (k + 1) (max m (com l t))
theorem startF_le (l : List UInt8) : ∀ (ts : List (List UInt8)) (k m : Nat), m ≤ l.length → (startF l ts k m).2.2 ≤ l.length
  | [], _, _, h => h
  | t :: ts, k, m, h => by
    unfold startF
    split
    · exact (com_le l t).1
    · exact startF_le l ts _ _ (by have := (com_le l t).1; omega)
def eofO (r : List UInt8) : Out (Option Rw) := if r = [] ∨ r = [10] then .ok none [] else .fell (if r.head? = some 10 then r.tail else r)
/-- what a line is by what it begins with -/
def lineO (N : Nat) (l : List UInt8) (x : Nat × Bool × Nat) : Out (Option Rw) :=
  if x.2.1 = false then .fell (l.drop x.2.2) else if x.1 = 4 then eofO (l.drop x.2.2) else (row x.1 N (l.drop x.2.2)).map some
theorem com_nil (l : List UInt8) : com l [] = 0 := by cases l <;> rfl
theorem com_cons (a b : UInt8) (l t : List UInt8) : com (a :: l) (b :: t) = if a = b then com l t + 1 else 0 := rfl
theorem head_row (k : Nat) (hk : k = 1 ∨ k = 2 ∨ k = 3) (N : Nat) (l : List UInt8) : head k N l = (row k N l).map some := by
  rw [head_is]
  unfold row
  have : ¬ ((k : Int) = 0) := by omega
  simp only [if_neg this]
theorem line_start (N : Nat) (l : List UInt8) : line N l = lineO N l (startF l sts 0 0) := by
  have hh : ¬ l.head? = some 35 → line N l = lineO N l (startF l sts 0 0) := fun h => by
    have h0 : ∀ t, com l (35 :: t) = 0 := fun t => by
      cases l with
      | nil => rfl
      | cons a l => rw [com_cons, if_neg (by simpa using h)]
    have e : startF l sts 0 0 = (0, true, 0) := by
      simp only [sts, startF, com_nil, h0, Nat.lt_irrefl, false_and, if_false, Nat.max_self]; rfl
    rw [e]
    unfold line lineO
    rw [if_neg h]
    show _ = (row 0 N l).map some
    rw [sample_is]; rfl
  cases l with
  | nil => exact hh (by simp)
  | cons a l =>
    by_cases ha : a = 35
    rotate_left
    · exact hh (by simpa using ha)
    subst ha
    clear hh
    unfold line
    rw [if_pos (show (35 :: l).head? = some 35 from rfl)]
    cases l with
    | nil => simp only [sts, startF, com]; rfl
    | cons b l =>
      by_cases hb : b = 32
      rotate_left
      · have e : startF (35 :: b :: l) sts 0 0 = (0, false, 1) := by
          simp only [sts, startF, com_nil, com_cons, if_neg hb]; rfl
        rw [e]
        simp only [lit, if_pos, if_neg hb]; rfl
      subst hb
      have e : startF (35 :: 32 :: l) sts 0 0 = 
        (if com l [84, 89, 80, 69, 32] = 5 then (1, true, 7) else if com l [85, 78, 73, 84, 32] = 5 then (2, true, 7) else if com l [72, 69, 76, 80, 32] = 5 then (3, true, 7) else if com l [69, 79, 70] = 3 then (4, true, 5) else
          (0, false, max (max (max (com l [84, 89, 80, 69, 32]) (com l [85, 78, 73, 84, 32])) (com l [72, 69, 76, 80, 32])) (com l [69, 79, 70]) + 2)) := by
        simp only [sts, startF, com_nil, com_cons, if_true, List.length_cons, List.length_nil]
        generalize com l [84, 89, 80, 69, 32] = x1
        generalize com l [85, 78, 73, 84, 32] = x2
        generalize com l [72, 69, 76, 80, 32] = x3
        generalize com l [69, 79, 70] = x4
        rw [if_neg (by omega)]
        by_cases h1 : x1 = 5
        · subst h1; rfl
        rw [if_neg (by omega), if_neg h1]
        by_cases h2 : x2 = 5
        · subst h2; rfl
        rw [if_neg (by omega), if_neg h2]
        by_cases h3 : x3 = 5
        · subst h3; rfl
        rw [if_neg (by omega), if_neg h3]
        by_cases h4 : x4 = 3
        · subst h4; rfl
        rw [if_neg (by omega), if_neg h4]
        refine Prod.ext rfl (Prod.ext ?_ ?_)
        · show (_ == 0) = false
          rw [beq_eq_false_iff_ne]; omega
        · show max _ _ = max (max (max x1 x2) x3) x4 + 2
          omega
      rw [e]
      have hl : lit [35, 32] (35 :: 32 :: l) = .ok () l := by simp [lit]
      rw [hl]
      show told N l = _
      cases l with
      | nil => rfl
      | cons c l =>
        have ht : told N (c :: l) = if c = 69 then (lit [69, 79, 70] (c :: l)).bind fun _ r => eofO r
          else if c = 84 then (lit [84, 89, 80, 69, 32] (c :: l)).bind fun _ r => head 1 N r
          else if c = 85 then (lit [85, 78, 73, 84, 32] (c :: l)).bind fun _ r => head 2 N r
          else if c = 72 then (lit [72, 69, 76, 80, 32] (c :: l)).bind fun _ r => head 3 N r
          else .fell (c :: l) := rfl
        rw [ht]
        have hb1 := com_le (c :: l) [84, 89, 80, 69, 32]
        have hb2 := com_le (c :: l) [85, 78, 73, 84, 32]
        have hb3 := com_le (c :: l) [72, 69, 76, 80, 32]
        have hb4 := com_le (c :: l) [69, 79, 70]
        by_cases h4 : c = 69
        · subst h4
          have z1 : com (69 :: l) [84, 89, 80, 69, 32] = 0 := rfl
          have z2 : com (69 :: l) [85, 78, 73, 84, 32] = 0 := rfl
          have z3 : com (69 :: l) [72, 69, 76, 80, 32] = 0 := rfl
          rw [if_pos rfl, lit_com, z1, z2, z3, show ([69, 79, 70] : List UInt8).length = 3 from rfl]
          simp only [show ¬ (0 : Nat) = 5 by decide, if_false]
          generalize com (69 :: l) [69, 79, 70] = x at *
          by_cases hx : x = 3
          · subst hx; rfl
          · simp only [if_neg hx]
            show Out.fell _ = Out.fell (List.drop (max (max (max 0 0) 0) x + 2) _)
            rw [show max (max (max 0 0) 0) x + 2 = x + 2 by omega]; rfl
        rw [if_neg h4]
        by_cases h1 : c = 84
        · subst h1
          have z1 : com (84 :: l) [69, 79, 70] = 0 := rfl
          have z2 : com (84 :: l) [85, 78, 73, 84, 32] = 0 := rfl
          have z3 : com (84 :: l) [72, 69, 76, 80, 32] = 0 := rfl
          rw [if_pos rfl, lit_com, z1, z2, z3, show ([84, 89, 80, 69, 32] : List UInt8).length = 5 from rfl]
          simp only [show ¬ (0 : Nat) = 5 by decide, show ¬ (0 : Nat) = 3 by decide, if_false]
          generalize com (84 :: l) [84, 89, 80, 69, 32] = x at *
          by_cases hx : x = 5
          · subst hx; exact head_row 1 (by omega) _ _
          · simp only [if_neg hx]
            show Out.fell _ = Out.fell (List.drop (max (max (max x 0) 0) 0 + 2) _)
            rw [show max (max (max x 0) 0) 0 + 2 = x + 2 by omega]; rfl
        rw [if_neg h1]
        by_cases h2 : c = 85
        · subst h2
          have z1 : com (85 :: l) [69, 79, 70] = 0 := rfl
          have z2 : com (85 :: l) [84, 89, 80, 69, 32] = 0 := rfl
          have z3 : com (85 :: l) [72, 69, 76, 80, 32] = 0 := rfl
          rw [if_pos rfl, lit_com, z1, z2, z3, show ([85, 78, 73, 84, 32] : List UInt8).length = 5 from rfl]
          simp only [show ¬ (0 : Nat) = 5 by decide, show ¬ (0 : Nat) = 3 by decide, if_false]
          generalize com (85 :: l) [85, 78, 73, 84, 32] = x at *
          by_cases hx : x = 5
          · subst hx; exact head_row 2 (by omega) _ _
          · simp only [if_neg hx]
            show Out.fell _ = Out.fell (List.drop (max (max (max 0 x) 0) 0 + 2) _)
            rw [show max (max (max 0 x) 0) 0 + 2 = x + 2 by omega]; rfl
        rw [if_neg h2]
        by_cases h3 : c = 72
        · subst h3
          have z1 : com (72 :: l) [69, 79, 70] = 0 := rfl
          have z2 : com (72 :: l) [84, 89, 80, 69, 32] = 0 := rfl
          have z3 : com (72 :: l) [85, 78, 73, 84, 32] = 0 := rfl
          rw [if_pos rfl, lit_com, z1, z2, z3, show ([72, 69, 76, 80, 32] : List UInt8).length = 5 from rfl]
          simp only [show ¬ (0 : Nat) = 5 by decide, show ¬ (0 : Nat) = 3 by decide, if_false]
          generalize com (72 :: l) [72, 69, 76, 80, 32] = x at *
          by_cases hx : x = 5
          · subst hx; exact head_row 3 (by omega) _ _
          · simp only [if_neg hx]
            show Out.fell _ = Out.fell (List.drop (max (max (max 0 0) x) 0 + 2) _)
            rw [show max (max (max 0 0) x) 0 + 2 = x + 2 by omega]; rfl
        rw [if_neg h3]
        have z1 : com (c :: l) [69, 79, 70] = 0 := by rw [com_cons, if_neg h4]
        have z2 : com (c :: l) [84, 89, 80, 69, 32] = 0 := by rw [com_cons, if_neg h1]
        have z3 : com (c :: l) [85, 78, 73, 84, 32] = 0 := by rw [com_cons, if_neg h2]
        have z4 : com (c :: l) [72, 69, 76, 80, 32] = 0 := by rw [com_cons, if_neg h3]
        rw [z1, z2, z3, z4]
        rfl
end Ow

end Go.Proofs.YthniemoganoapaaDoor
