/- The code's pieces of package openword, in plain words (layer 17): they are the document's. -/
import Derived.Test.YthniemoganoapaaDoorOwRows
set_option maxRecDepth 100000
set_option linter.unusedVariables false
set_option linter.unusedSimpArgs false
namespace Go.Proofs.YthniemoganoapaaDoor
namespace Ow
open Utf

def okB {α : Type} (o : Out α) : Bool := match o with | .fell _ => false | .ok _ _ => true
def clsL : List Nat := [0, 0, 0, 0, 0, 0, 0, 0, 0, 0, 128, 0, 0, 0, 0, 0, 0, 0, 0, 0, 0, 0, 0, 0, 0, 0, 0, 0, 0, 0, 0, 0, 0, 0, 32, 0, 0, 0, 0, 0, 0, 0, 0, 0, 0, 0, 0, 0, 4, 4, 4, 4, 4, 4, 4, 4, 4, 4, 16, 0, 0, 0, 0, 0, 0, 2, 2, 2, 2, 2, 2, 2, 2, 2, 2, 2, 2, 2, 2, 2, 2, 2, 2, 2, 2, 2, 2, 2, 2, 2, 2, 0, 64, 0, 0, 8, 0, 1, 1, 1, 1, 1, 1, 1, 1, 1, 1, 1, 1, 1, 1, 1, 1, 1, 1, 1, 1, 1, 1, 1, 1, 1, 1]
def inS (set : Nat) (c : UInt8) : Bool := decide (c.toNat < 123) && decide (clsL.getD c.toNat 0 &&& set ≠ 0)
theorem byte_all {p : UInt8 → Bool} (h : (List.range 256).all (fun n => p (UInt8.ofNat n)) = true) (c : UInt8) : p c = true := by
  have := List.all_eq_true.1 h c.toNat (List.mem_range.2 c.toNat_lt)
  rw [show UInt8.ofNat c.toNat = c by apply UInt8.toNat_inj.1; simp] at this
  exact this
theorem in31 (c : UInt8) : inS 31 c = inC 2 c := beq_iff_eq.1 (byte_all (p := fun c => inS 31 c == inC 2 c) (by decide +kernel) c)
theorem in15 (c : UInt8) : inS 15 c = inC 3 c := beq_iff_eq.1 (byte_all (p := fun c => inS 15 c == inC 3 c) (by decide +kernel) c)
theorem in1 (c : UInt8) : inS 1 c = inC 1 c := beq_iff_eq.1 (byte_all (p := fun c => inS 1 c == inC 1 c) (by decide +kernel) c)
theorem in4 (c : UInt8) : inS 4 c = inC 0 c := beq_iff_eq.1 (byte_all (p := fun c => inS 4 c == inC 0 c) (by decide +kernel) c)
theorem in27 (c : UInt8) : inS 27 c = (inC 2 c && !digit c) := beq_iff_eq.1 (byte_all (p := fun c => inS 27 c == (inC 2 c && !digit c)) (by decide +kernel) c)
theorem in11 (c : UInt8) : inS 11 c = (inC 3 c && !digit c) := beq_iff_eq.1 (byte_all (p := fun c => inS 11 c == (inC 3 c && !digit c)) (by decide +kernel) c)
theorem in128 (c : UInt8) : inS 128 c = decide (c = 10) := beq_iff_eq.1 (byte_all (p := fun c => inS 128 c == decide (c = 10)) (by decide +kernel) c)
theorem in160 (c : UInt8) : inS 160 c = (decide (c = 34) || decide (c = 10)) := beq_iff_eq.1 (byte_all (p := fun c => inS 160 c == (decide (c = 34) || decide (c = 10))) (by decide +kernel) c)
theorem in64 (c : UInt8) : inS 64 c = decide (c = 92) := beq_iff_eq.1 (byte_all (p := fun c => inS 64 c == decide (c = 92)) (by decide +kernel) c)
theorem in96 (c : UInt8) : inS 96 c = (decide (c = 92) || decide (c = 34)) := beq_iff_eq.1 (byte_all (p := fun c => inS 96 c == (decide (c = 92) || decide (c = 34))) (by decide +kernel) c)
theorem in224 (c : UInt8) : inS 224 c = (decide (c = 92) || decide (c = 34) || decide (c = 10)) := beq_iff_eq.1 (byte_all (p := fun c => inS 224 c == (decide (c = 92) || decide (c = 34) || decide (c = 10))) (by decide +kernel) c)
theorem in192 (c : UInt8) : inS 192 c = (decide (c = 92) || decide (c = 10)) := beq_iff_eq.1 (byte_all (p := fun c => inS 192 c == (decide (c = 92) || decide (c = 10))) (by decide +kernel) c)

def sees (set : Nat) (l : List UInt8) : Bool := match l with | [] => false | c :: _ => inS set c
def many (set : Nat) (l : List UInt8) : Out (List UInt8) := if (l.takeWhile (inS set)).isEmpty then .fell l else .ok (l.takeWhile (inS set)) (l.dropWhile (inS set))
def one (set : Nat) (l : List UInt8) : Out (List UInt8) := match l with | [] => .fell [] | c :: r => if inS set c = true then .ok [c] r else .fell (c :: r)
def name (set off : Nat) (l : List UInt8) : Out (List UInt8) := if sees off l = true then many set l else .fell l
theorem stay_in (k : Int) : stay k [] = inC k := by funext c; simp [stay]
theorem many_run {set : Nat} {k : Int} (h : ∀ c, inS set c = inC k c) (l : List UInt8) : many set l = run k [] false l := by
  have e : inS set = stay k [] := by rw [stay_in]; funext c; exact h c
  unfold many run; rw [e, Bool.false_and, Bool.false_or]
theorem name_run {set off : Nat} {k : Int} (h : ∀ c, inS set c = inC k c) (h2 : ∀ c, inS off c = (inC k c && !digit c)) (l : List UInt8) : name set off l = run k [] true l := by
  have e : inS set = stay k [] := by rw [stay_in]; funext c; exact h c
  unfold name many run; rw [e, Bool.true_and]
  cases l with
  | nil => rfl
  | cons c l =>
    unfold sees num1
    simp only [h2]
    rcases Bool.eq_false_or_eq_true (digit c) with hd | hd
    · simp only [hd]; simp
    · simp only [hd]
      rw [Bool.false_or, Bool.not_false, Bool.and_true]
      rcases Bool.eq_false_or_eq_true (inC k c) with hk | hk
      · simp only [hk]; simp
      · simp only [hk]
        rw [if_neg (by decide), if_pos]
        rw [List.takeWhile_cons_of_neg (by rw [stay_in, hk]; decide)]; rfl
theorem num_is (l : List UInt8) : num false l = ((many 4 (if l.head? = some 45 then l.tail else l)).bind fun _ r =>
    if r.head? = some 46 then (many 4 r.tail).bind fun _ r' => .ok (l.take (l.length - r'.length)) r' else .ok (l.take (l.length - r.length)) r) := by
  unfold num
  simp only [many_run (k := 0) in4]
  congr 1
  funext _ r
  by_cases h : r.head? = some 46
  · simp only [h, and_self, if_true]
  · simp only [h, and_false, if_false]
def part (marks : List UInt8) (l : List UInt8) : Out (List UInt8) :=
  match l with
  | [] => .fell []
  | c :: r => if c = 92 then (match r with | [] => .fell [] | d :: r' => if marks.contains d = true then .ok [if d = 110 then 10 else d] r' else .fell (d :: r'))
    else if (front (c :: r)).2 = true then .ok ((c :: r).take (front (c :: r)).1) ((c :: r).drop (front (c :: r)).1) else .fell ((c :: r).drop (front (c :: r)).1)
theorem str_part {e c : UInt8} {bad marks : List UInt8} (h1 : c ≠ e) (he : (92 : UInt8) ≠ e) (h3 : bad.contains c = false) (r : List UInt8) :
    str e bad marks 110 (c :: r) = (part marks (c :: r)).bind fun v r' => (str e bad marks 110 r').map (v ++ ·) := by
  by_cases hc : c = 92
  · subst hc
    simp only [part, if_true]
    cases r with
    | nil => exact str_esc0 he
    | cons d r' =>
      rw [str_esc he]
      by_cases hm : marks.contains d = true
      · rw [if_pos hm]; simp only [if_pos hm]; rfl
      · rw [if_neg hm]; simp only [if_neg hm]; rfl
  · simp only [part, if_neg hc]
    by_cases hw : (front (c :: r)).2 = true
    · rw [if_pos hw, str_yes h1 hc h3 hw]; rfl
    · rw [if_neg hw, str_no h1 hc h3 hw]; rfl
theorem lit_two (a b : UInt8) (l : List UInt8) : lit [a, b] l = (lit [a] l).bind fun _ r => lit [b] r := by
  cases l with
  | nil => rfl
  | cons c l =>
    by_cases h : c = a
    · subst h; simp only [lit, if_pos]; rfl
    · simp only [lit, if_neg h]; rfl
theorem take_yes {b : UInt8} {l : List UInt8} (h : l.head? = some b) : lit [b] l = .ok () l.tail := by
  cases l with
  | nil => cases h
  | cons c l => have : c = b := by simpa using h
                subst this; simp [lit]
theorem take_no {b : UInt8} {l : List UInt8} (h : ¬ l.head? = some b) : lit [b] l = .fell l := by
  cases l with
  | nil => rfl
  | cons c l => simp only [lit]; rw [if_neg]; simpa using h
def tagsO (N : Nat) (l : List UInt8) : Out (List Tg) := if l.head? = some 123 then (if l.tail.head? = some 125 then .ok [] l.tail.tail else tags N l.tail) else .ok [] l
/-- behind a sample's name -/
def body0 (N off : Nat) (nm : List UInt8) (l : List UInt8) : Out Rw :=
  (tagsO N l).bind fun tg r2 => (lit [32] r2).bind fun _ r3 => (num false r3).bind fun tx r4 =>
    if r4.head? = some 32 then (num false r4.tail).bind fun tm r5 => .ok ⟨0, nm, off, tg, tx, N - r3.length, true, tm, N - r4.tail.length⟩ r5
    else .ok ⟨0, nm, off, tg, tx, N - r3.length, false, [], 0⟩ r4
theorem sample_is (N : Nat) (l : List UInt8) : sample N l = (name 31 27 l).bind fun nm r1 => body0 N (N - l.length) nm r1 := by
  rw [name_run in31 in27]; rfl
/-- behind another row's name -/
def body1 (k : Int) (N off : Nat) (nm : List UInt8) (l : List UInt8) : Out Rw :=
  (lit [32] l).bind fun _ r2 => (text k r2).bind fun tx r3 => .ok ⟨k, nm, off, [], tx, N - r2.length, false, [], 0⟩ r3
theorem head_is (k : Int) (N : Nat) (l : List UInt8) : head k N l = ((name 31 27 l).bind fun nm r1 => body1 k N (N - l.length) nm r1).map some := by
  rw [name_run in31 in27]
  unfold head
  cases run 2 [] true l with
  | fell r => rfl
  | ok v r =>
    show (lit [32] r).bind _ = Out.map ((lit [32] r).bind _) some
    cases lit [32] r with
    | fell r => rfl
    | ok v2 r2 => 
      show (text k r2).bind _ = Out.map ((text k r2).bind _) some
      cases text k r2 <;> rfl
/-- a line behind what it begins with -/
def row (k : Int) (N : Nat) (l : List UInt8) : Out Rw := (name 31 27 l).bind fun nm r1 => if k = 0 then body0 N (N - l.length) nm r1 else body1 k N (N - l.length) nm r1
end Ow

end Go.Proofs.YthniemoganoapaaDoor
