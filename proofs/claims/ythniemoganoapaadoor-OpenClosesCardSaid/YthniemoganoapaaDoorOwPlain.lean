/- The open format's words, in plain words (layer 17): a text from the left, piece by piece; each piece gives what it read and what is left, or what is left where it can't go on. -/
import Derived.Test.YthniemoganoapaaDoorPlA
set_option linter.unusedVariables false
set_option linter.unusedSimpArgs false
namespace Go.Proofs.YthniemoganoapaaDoor
namespace Ow
open Utf

inductive Out (α : Type) where
  | fell (r : List UInt8)
  | ok (v : α) (r : List UInt8)
def Out.bind {α β : Type} (o : Out α) (f : α → List UInt8 → Out β) : Out β :=
  match o with
  | .fell r => .fell r
  | .ok v r => f v r
def Out.map {α β : Type} (o : Out α) (f : α → β) : Out β :=
  match o with
  | .fell r => .fell r
  | .ok v r => .ok (f v) r
/-- what is left of it -/
def Out.rest {α : Type} (o : Out α) : List UInt8 :=
  match o with
  | .fell r => r
  | .ok _ r => r

/-- just these bytes -/
def lit : List UInt8 → List UInt8 → Out Unit
  | [], l => .ok () l
  | _ :: _, [] => .fell []
  | t :: ts, c :: l => if c = t then lit ts l else .fell (c :: l)

/-- the classes of bytes -/
def letter (c : UInt8) : Bool := (decide (97 ≤ c.toNat) && decide (c.toNat ≤ 122)) || (decide (65 ≤ c.toNat) && decide (c.toNat ≤ 90))
def digit (c : UInt8) : Bool := decide (48 ≤ c.toNat) && decide (c.toNat ≤ 57)
def inC (k : Int) (c : UInt8) : Bool :=
  if k = 0 then digit c
  else if k = 1 then decide (97 ≤ c.toNat) && decide (c.toNat ≤ 122)
  else if k = 2 then letter c || digit c || decide (c.toNat = 95) || decide (c.toNat = 58)
  else if k = 3 then letter c || digit c || decide (c.toNat = 95)
  else if k = 4 then letter c || digit c || decide (c.toNat = 95) || decide (c.toNat = 45) || decide (c.toNat = 58)
  else if k = 5 then letter c || digit c || decide (c.toNat = 95) || decide (c.toNat = 45) || decide (c.toNat = 46)
  else decide (33 ≤ c.toNat) && decide (c.toNat ≤ 126)
/-- one or more bytes of a class but some; the first one no digit -/
def stay (k : Int) (but : List UInt8) (c : UInt8) : Bool := inC k c && !but.contains c
def num1 (l : List UInt8) : Bool := match l with | [] => false | c :: _ => digit c
def run (k : Int) (but : List UInt8) (first : Bool) (l : List UInt8) : Out (List UInt8) :=
  if (first && num1 l) || (l.takeWhile (stay k but)).isEmpty then .fell l else .ok (l.takeWhile (stay k but)) (l.dropWhile (stay k but))

/-- a number: a decimal's text, or a whole one -/
def num (whole : Bool) (l : List UInt8) : Out (List UInt8) :=
  (run 0 [] false (if l.head? = some 45 then l.tail else l)).bind fun _ r =>
    if whole = false ∧ r.head? = some 46 then (run 0 [] false r.tail).bind fun _ r' => .ok (l.take (l.length - r'.length)) r'
    else .ok (l.take (l.length - r.length)) r

theorem drop_lt {l : List UInt8} (h : l ≠ []) (hw : (front l).2 = true) : (l.drop (front l).1).length < l.length := by
  have h1 := front_whole hw
  have h2 := List.length_pos_iff.2 h
  rw [List.length_drop]; omega
/-- scalars up to a byte that ends it, none of bad; behind a backslash one of marks, n for a line feed -/
def str (e : UInt8) (bad marks : List UInt8) (n : UInt8) (l : List UInt8) : Out (List UInt8) :=
  match l with
  | [] => .fell []
  | c :: r =>
    if c = e then .ok [] (c :: r)
    else if c = 92 then
      match r with
      | [] => .fell []
      | d :: r' => if marks.contains d then (str e bad marks n r').map ((if d = n then 10 else d) :: ·) else .fell (d :: r')
    else if bad.contains c then .fell (c :: r)
    else if hw : (front (c :: r)).2 = true then
      have := drop_lt (l := c :: r) (by simp) hw
      (str e bad marks n ((c :: r).drop (front (c :: r)).1)).map ((c :: r).take (front (c :: r)).1 ++ ·)
    else .fell ((c :: r).drop (front (c :: r)).1)
termination_by l.length
decreasing_by
  all_goals simp_all
  all_goals omega

theorem str_nil (e : UInt8) (bad marks : List UInt8) (n : UInt8) : str e bad marks n [] = .fell [] := by rw [str.eq_def]
theorem str_end {e : UInt8} {bad marks : List UInt8} {n : UInt8} (r : List UInt8) : str e bad marks n (e :: r) = .ok [] (e :: r) := by rw [str.eq_def]; simp
theorem str_esc0 {e : UInt8} {bad marks : List UInt8} {n : UInt8} (h : (92 : UInt8) ≠ e) : str e bad marks n [92] = .fell [] := by rw [str.eq_def]; simp [h]
theorem str_esc {e : UInt8} {bad marks : List UInt8} {n d : UInt8} (h : (92 : UInt8) ≠ e) (r : List UInt8) : str e bad marks n (92 :: d :: r) = if marks.contains d then (str e bad marks n r).map ((if d = n then 10 else d) :: ·) else .fell (d :: r) := by
  rw [str.eq_def]; simp only [if_neg h, if_pos]
theorem str_bad {e c : UInt8} {bad marks : List UInt8} {n : UInt8} (h1 : c ≠ e) (h2 : c ≠ 92) (h3 : bad.contains c = true) (r : List UInt8) : str e bad marks n (c :: r) = .fell (c :: r) := by
  rw [str.eq_def]; simp only [if_neg h1, if_neg h2, if_pos h3]
theorem str_yes {e c : UInt8} {bad marks : List UInt8} {n : UInt8} (h1 : c ≠ e) (h2 : c ≠ 92) (h3 : bad.contains c = false) {r : List UInt8} (hw : (front (c :: r)).2 = true) :
    str e bad marks n (c :: r) = (str e bad marks n ((c :: r).drop (front (c :: r)).1)).map ((c :: r).take (front (c :: r)).1 ++ ·) := by
  rw [str.eq_def]; simp only [if_neg h1, if_neg h2, h3, Bool.false_eq_true, if_false, dif_pos hw]
theorem str_no {e c : UInt8} {bad marks : List UInt8} {n : UInt8} (h1 : c ≠ e) (h2 : c ≠ 92) (h3 : bad.contains c = false) {r : List UInt8} (hw : ¬ (front (c :: r)).2 = true) :
    str e bad marks n (c :: r) = .fell ((c :: r).drop (front (c :: r)).1) := by
  rw [str.eq_def]; simp only [if_neg h1, if_neg h2, h3, Bool.false_eq_true, if_false, dif_neg hw]

structure Tg where
  n : List UInt8
  v : List UInt8
  off : Nat
  at_ : Nat
structure Rw where
  k : Int
  n : List UInt8
  off : Nat
  tags : List Tg
  text : List UInt8
  at_ : Nat
  td : Bool
  tm : List UInt8
  wh : Nat

/-- one label of a text of N bytes -/
def tag1 (N : Nat) (l : List UInt8) : Out Tg :=
  (run 3 [] true l).bind fun nm r1 => (lit [61, 34] r1).bind fun _ r2 => (str 34 [10] [92, 34, 110] 110 r2).bind fun v r3 => (lit [34] r3).bind fun _ r4 =>
    .ok ⟨nm, v, N - l.length, N - r2.length⟩ r4
def tagsF : Nat → Nat → List UInt8 → Out (List Tg)
  | 0, _, l => .fell l
  | f + 1, N, l => (tag1 N l).bind fun t r => if r.head? = some 44 then (tagsF f N r.tail).map (t :: ·) else (lit [125] r).bind fun _ r' => .ok [t] r'
def tags (N : Nat) (l : List UInt8) : Out (List Tg) := tagsF (l.length + 1) N l

def sample (N : Nat) (l : List UInt8) : Out Rw :=
  (run 2 [] true l).bind fun nm r1 =>
  (if r1.head? = some 123 then (if r1.tail.head? = some 125 then .ok [] r1.tail.tail else tags N r1.tail) else .ok [] r1).bind fun tg r2 =>
  (lit [32] r2).bind fun _ r3 => (num false r3).bind fun tx r4 =>
    if r4.head? = some 32 then (num false r4.tail).bind fun tm r5 => .ok ⟨0, nm, N - l.length, tg, tx, N - r3.length, true, tm, N - r4.tail.length⟩ r5
    else .ok ⟨0, nm, N - l.length, tg, tx, N - r3.length, false, [], 0⟩ r4

def text (k : Int) (l : List UInt8) : Out (List UInt8) := if k = 1 then run 1 [] false l else if k = 2 then run 2 [] false l else str 10 [] [92, 110] 110 l
def head (k : Int) (N : Nat) (l : List UInt8) : Out (Option Rw) :=
  (run 2 [] true l).bind fun nm r1 => (lit [32] r1).bind fun _ r2 => (text k r2).bind fun tx r3 => .ok (some ⟨k, nm, N - l.length, [], tx, N - r2.length, false, [], 0⟩) r3
/-- behind a # and a blank: a row; none: the end -/
def told (N : Nat) (l : List UInt8) : Out (Option Rw) :=
  match l with
  | [] => .fell []
  | c :: _ =>
    if c = 69 then (lit [69, 79, 70] l).bind fun _ r => if r = [] ∨ r = [10] then .ok none [] else .fell (if r.head? = some 10 then r.tail else r)
    else if c = 84 then (lit [84, 89, 80, 69, 32] l).bind fun _ r => head 1 N r
    else if c = 85 then (lit [85, 78, 73, 84, 32] l).bind fun _ r => head 2 N r
    else if c = 72 then (lit [72, 69, 76, 80, 32] l).bind fun _ r => head 3 N r
    else .fell l
def line (N : Nat) (l : List UInt8) : Out (Option Rw) :=
  if l.head? = some 35 then (lit [35, 32] l).bind fun _ r => told N r else (sample N l).map some
def rowsF : Nat → Nat → List UInt8 → Out (List Rw)
  | 0, _, l => .fell l
  | f + 1, N, l => (line N l).bind fun o r =>
    match o with
    | none => .ok [] r
    | some x => (lit [10] r).bind fun _ r' => (rowsF f N r').map (x :: ·)
def rows (N : Nat) (l : List UInt8) : Out (List Rw) := rowsF (l.length + 1) N l
/-- where it can't go on; -1: it is a text -/
def bad (s : List UInt8) : Int := match rows s.length s with | .fell r => ((s.length - r.length : Nat) : Int) | .ok _ _ => -1

/-- a text with what it can't hold as it is behind a backslash -/
def quote (q : Bool) : List UInt8 → List UInt8
  | [] => []
  | c :: l => (if c = 92 then [92, 92] else if c = 34 ∧ q = true then [92, 34] else if c = 10 then [92, 110] else [c]) ++ quote q l

end Ow
end Go.Proofs.YthniemoganoapaaDoor
