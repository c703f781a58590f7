/- The texts ChPlain, EscPlain, LossPlain, CollPlain, one behind the other. -/
import Derived.Test.YtgoibhbmndpgpaaGreatDoorGrd
import Derived.Sort.Walk0
import Derived.Lib.SlicesCompact

/- Which names may be where, in plain words: the document's words (legC), the code's classes of bytes (codC): they say the same. -/
set_option maxRecDepth 100000
set_option linter.unusedVariables false
set_option linter.unusedSimpArgs false
namespace Go.Proofs.YtgoibhbmndpgpaaGreatDoor
namespace Ch

def letter (c : UInt8) : Bool := (decide (97 ≤ c.toNat) && decide (c.toNat ≤ 122)) || (decide (65 ≤ c.toNat) && decide (c.toNat ≤ 90))
def digit (c : UInt8) : Bool := decide (48 ≤ c.toNat) && decide (c.toNat ≤ 57)
def line (c : UInt8) : Bool := decide (32 ≤ c.toNat) && decide (c.toNat ≤ 126) && !decide (c.toNat = 92)
/-- may a byte stand there: b, is another one ahead of it; q, does it part two nodes -/
def legC (p w : Int) (c : UInt8) (b q : Bool) : Bool :=
  (decide (w = 0) || decide (w = 1)) &&
  (if p = 1 then letter c || decide (c.toNat = 95) || (b && digit c) || (decide (w = 0) && decide (c.toNat = 58))
   else if p = 2 then line c && !(!b && decide (c.toNat = 35) && decide (w = 0))
   else if p = 3 then (if c.toNat = 46 then decide (w = 0) && q else letter c || digit c || decide (c.toNat = 95) || decide (c.toNat = 45) || decide (c.toNat = 58))
   else if p = 4 then letter c || digit c || decide (c.toNat = 95) || decide (c.toNat = 45) || decide (c.toNat = 46)
   else false)
/-- is the byte k between two others, the one ahead no point -/
def mid (l : List UInt8) (k : Nat) : Bool := decide (0 < k) && decide (k + 1 < l.length) && !decide ((l.getD (k - 1) 0).toNat = 46)
/-- may the byte k stand there -/
def leg (p w : Int) (l : List UInt8) (k : Nat) : Bool := match l[k]? with | none => false | some c => legC p w c (decide (0 < k)) (mid l k)
def legI (p w : Int) (l : List UInt8) (i : Int) : Bool := decide (0 ≤ i) && leg p w l i.toNat
/-- the first byte that may not stand where it does, of n from k on -/
def badGo (p w : Int) (l : List UInt8) : Nat → Nat → Int
  | 0, _ => -1
  | n + 1, k => if leg p w l k then badGo p w l n (k + 1) else (k : Int)
def bad (p w : Int) (l : List UInt8) : Int := badGo p w l l.length 0
def isName (p w : Int) (l : List UInt8) : Bool := decide (1 ≤ l.length) && decide (l.length ≤ 60) && decide (bad p w l < 0)

/-- the code's classes -/
def spans : List (Nat × Nat × Nat) := [(32, 34, 128), (35, 35, 64), (36, 44, 128), (45, 45, 8), (46, 46, 32), (47, 47, 128), (48, 57, 2), (58, 58, 16), (59, 64, 128), (65, 90, 1), (91, 91, 128), (93, 94, 128), (95, 95, 4), (96, 96, 128), (97, 122, 1), (123, 126, 128)]
def clsF : List (Nat × Nat × Nat) → Nat → Nat
  | [], _ => 0
  | (lo, hi, cl) :: r, n => if n ≤ hi then (if n < lo then 0 else cl) else clsF r n
def cls (c : UInt8) : Nat := clsF spans c.toNat
def setN (p w : Int) : Nat :=
  if w = 0 then (if p = 1 then 23 else if p = 2 then 255 else if p = 3 then 63 else if p = 4 then 47 else 0)
  else if w = 1 then (if p = 1 then 7 else if p = 2 then 255 else if p = 3 then 31 else if p = 4 then 47 else 0)
  else 0
def plC (p w : Int) (cl : Nat) (b q : Bool) : Bool :=
  if cl = 2 then !decide (p = 1) || b else if cl = 64 then !decide (w = 0) || b else if cl = 32 then !decide (p = 3) || q else true
def codC (p w : Int) (c : UInt8) (b q : Bool) : Bool := decide (setN p w &&& cls c ≠ 0) && plC p w (cls c) b q

theorem all_bytes {P : UInt8 → Prop} (h : ∀ n : Fin 256, P (UInt8.ofNat n.val)) (c : UInt8) : P c := by
  have := h ⟨c.toNat, c.toNat_lt⟩
  simpa using this
theorem cod_leg (p w : Int) (c : UInt8) (b q : Bool) : codC p w c b q = legC p w c b q := by
  revert b q
  revert c
  by_cases h0 : w = 0
  · subst h0
    by_cases h1 : p = 1
    · subst h1; exact all_bytes (by decide +kernel)
    by_cases h2 : p = 2
    · subst h2; exact all_bytes (by decide +kernel)
    by_cases h3 : p = 3
    · subst h3; exact all_bytes (by decide +kernel)
    by_cases h4 : p = 4
    · subst h4; exact all_bytes (by decide +kernel)
    intro c b q
    simp [codC, legC, setN, h1, h2, h3, h4]
  · by_cases h : w = 1
    · subst h
      by_cases h1 : p = 1
      · subst h1; exact all_bytes (by decide +kernel)
      by_cases h2 : p = 2
      · subst h2; exact all_bytes (by decide +kernel)
      by_cases h3 : p = 3
      · subst h3; exact all_bytes (by decide +kernel)
      by_cases h4 : p = 4
      · subst h4; exact all_bytes (by decide +kernel)
      intro c b q
      simp [codC, legC, setN, h1, h2, h3, h4]
    · intro c b q
      simp [codC, legC, setN, h0, h]
theorem setN_lt (p w : Int) : setN p w < 256 := by
  unfold setN
  repeat' split
  all_goals omega
theorem setN_off {p w : Int} (h : ¬ (1 ≤ p ∧ p ≤ 4)) : setN p w = 0 := by
  unfold setN
  have h1 : ¬ p = 1 := by omega
  have h2 : ¬ p = 2 := by omega
  have h3 : ¬ p = 3 := by omega
  have h4 : ¬ p = 4 := by omega
  simp [h1, h2, h3, h4]
theorem cls_lt (c : UInt8) : cls c < 256 := by
  revert c
  exact all_bytes (by decide +kernel)

theorem leg_at {p w : Int} {l : List UInt8} {k : Nat} (h : k < l.length) : leg p w l k = legC p w l[k] (decide (0 < k)) (mid l k) := by
  unfold leg; rw [List.getElem?_eq_getElem h]
theorem leg_out {p w : Int} {l : List UInt8} {k : Nat} (h : l.length ≤ k) : leg p w l k = false := by
  unfold leg; rw [List.getElem?_eq_none h]
theorem legI_at {p w : Int} {l : List UInt8} (k : Nat) : legI p w l (k : Int) = leg p w l k := by
  unfold legI; simp
theorem badGo_neg (p w : Int) (l : List UInt8) : ∀ n k, badGo p w l n k < 0 ↔ ∀ j, k ≤ j → j < k + n → leg p w l j = true
  | 0, k => by simp only [badGo]; exact ⟨fun _ j h1 h2 => absurd h2 (by omega), fun _ => by omega⟩
  | n + 1, k => by
    simp only [badGo]
    split
    · rename_i h
      rw [badGo_neg p w l n (k + 1)]
      constructor
      · intro H j h1 h2
        by_cases e : j = k
        · subst e; exact h
        · exact H j (by omega) (by omega)
      · intro H j h1 h2
        exact H j (by omega) (by omega)
    · rename_i h
      constructor
      · intro h3; omega
      · intro H; exact absurd (H k (Nat.le_refl _) (by omega)) h
theorem bad_neg {p w : Int} {l : List UInt8} : bad p w l < 0 ↔ ∀ j, j < l.length → leg p w l j = true := by
  unfold bad
  rw [badGo_neg]
  exact ⟨fun H j h => H j (Nat.zero_le _) (by omega), fun H j _ h => H j (by omega)⟩
/-- in no format, of no sort no byte may stand anywhere -/
theorem legC_off {p w : Int} {c : UInt8} {b q : Bool} (h : ¬ (1 ≤ p ∧ p ≤ 4 ∧ (w = 0 ∨ w = 1))) : legC p w c b q = false := by
  unfold legC
  by_cases hw : w = 0 ∨ w = 1
  · rw [if_neg (by omega), if_neg (by omega), if_neg (by omega), if_neg (by omega), Bool.and_false]
  · have h0 : decide (w = 0) = false := decide_eq_false (fun e => hw (Or.inl e))
    have h1 : decide (w = 1) = false := decide_eq_false (fun e => hw (Or.inr e))
    rw [h0, h1]; rfl
theorem bad_off {p w : Int} {l : List UInt8} (h : ¬ (1 ≤ p ∧ p ≤ 4 ∧ (w = 0 ∨ w = 1))) (hl : 0 < l.length) : ¬ bad p w l < 0 := by
  intro hb
  have := bad_neg.1 hb 0 hl
  rw [leg_at hl, legC_off h] at this
  cases this
/-- the reference's words for a name -/
theorem isName_ref (p w : Int) (l : List UInt8) :
    isName p w l = (decide (1 ≤ l.length) && decide (l.length ≤ 60) && decide (1 ≤ p) && decide (p ≤ 4) && (decide (w = 0) || decide (w = 1)) && decide (bad p w l < 0)) := by
  unfold isName
  by_cases h : 1 ≤ p ∧ p ≤ 4 ∧ (w = 0 ∨ w = 1)
  · obtain ⟨h1, h2, h3⟩ := h
    have e : (decide (w = 0) || decide (w = 1)) = true := by rw [Bool.or_eq_true]; exact h3.imp decide_eq_true decide_eq_true
    rw [decide_eq_true h1, decide_eq_true h2, e]; simp
  · by_cases hl : 1 ≤ l.length
    · rw [decide_eq_false (bad_off h hl)]; simp
    · rw [decide_eq_false hl]; simp

end Ch
end Go.Proofs.YtgoibhbmndpgpaaGreatDoor

/- Names that come back, in plain words: what a name becomes (esc), what it was (undo), what it is read as (back). -/
set_option maxRecDepth 100000
set_option linter.unusedVariables false
set_option linter.unusedSimpArgs false
namespace Go.Proofs.YtgoibhbmndpgpaaGreatDoor
namespace Ch

/-- does a byte lie between two others, the one ahead no point: told by the one ahead, and by what is behind -/
def midP (prev : Option UInt8) (r : List UInt8) : Bool := match prev with | none => false | some d => !r.isEmpty && !decide (d.toNat = 46)
/-- a hexadecimal digit -/
def hexD (n : Nat) : UInt8 := if n < 10 then UInt8.ofNat (48 + n) else UInt8.ofNat (87 + n)
/-- a byte behind _x -/
def code (c : UInt8) : List UInt8 := [95, 120, hexD (c.toNat / 16), hexD (c.toNat % 16)]
/-- is a byte the _ of an _x -/
def isUx (c : UInt8) (r : List UInt8) : Bool := decide (c = 95) && decide (r.head? = some 120)
/-- what is left of a name becomes, behind a byte -/
def escL (p w : Int) : Option UInt8 → List UInt8 → List UInt8
  | _, [] => []
  | prev, c :: r => (if legC p w c prev.isSome (midP prev r) && !isUx c r then [c] else code c) ++ escL p w (some c) r
def esc (p w : Int) (l : List UInt8) : List UInt8 := escL p w none l
/-- a hexadecimal digit's number -/
def unhex (c : UInt8) : Option Nat :=
  if 48 ≤ c.toNat ∧ c.toNat ≤ 57 then some (c.toNat - 48) else if 97 ≤ c.toNat ∧ c.toNat ≤ 102 then some (c.toNat - 87) else none
/-- what a name was -/
def undo : List UInt8 → Option (List UInt8)
  | [] => some []
  | [c] => some [c]
  | [c, d] => if c = 95 ∧ d = 120 then none else (undo [d]).map (c :: ·)
  | [c, d, e] => if c = 95 ∧ d = 120 then none else (undo [d, e]).map (c :: ·)
  | c :: d :: e :: f :: r =>
    if c = 95 ∧ d = 120 then
      match unhex e, unhex f with
      | some x, some y => (undo r).map (UInt8.ofNat (16 * x + y) :: ·)
      | _, _ => none
    else (undo (d :: e :: f :: r)).map (c :: ·)
/-- what a name is read as -/
def back (p w : Int) (s : List UInt8) : List UInt8 := match undo s with | some t => if esc p w t = s then t else s | none => s

end Ch
end Go.Proofs.YtgoibhbmndpgpaaGreatDoor

/- Names at a loss, in plain words: what a name becomes (loss). -/
set_option maxRecDepth 100000
set_option linter.unusedVariables false
set_option linter.unusedSimpArgs false
namespace Go.Proofs.YtgoibhbmndpgpaaGreatDoor
namespace Ch

/-- what is left of a name becomes, behind a byte -/
def lossL (p w : Int) : Option UInt8 → List UInt8 → List UInt8
  | _, [] => []
  | prev, c :: r => (if legC p w c prev.isSome (midP prev r) then c else 95) :: lossL p w (some c) r
def loss (p w : Int) (l : List UInt8) : List UInt8 := lossL p w none l
end Ch
end Go.Proofs.YtgoibhbmndpgpaaGreatDoor

/- Names of which two become one, in plain words: the least pair (ClashOf), as the document's reference finds it (collO), as the code finds it (back, over the names sorted, each once). -/
set_option maxRecDepth 100000
set_option linter.unusedVariables false
set_option linter.unusedSimpArgs false
namespace Go.Proofs.YtgoibhbmndpgpaaGreatDoor
namespace Co

abbrev Bs := List UInt8
theorem lt_irrefl (a : Bs) : ¬ a < a := List.lt_irrefl a
theorem lt_trans {a b c : Bs} (h : a < b) (k : b < c) : a < c := List.lt_trans h k
theorem lt_asymm {a b : Bs} (h : a < b) : ¬ b < a := fun k => lt_irrefl a (lt_trans h k)
/-- is pair c ahead of pair d -/
def ahead (c d : Bs × Bs) : Prop := c.1 < d.1 ∨ (c.1 = d.1 ∧ c.2 < d.2)
instance (c d : Bs × Bs) : Decidable (ahead c d) := by unfold ahead; infer_instance
/-- do the two names of a pair clash -/
def clash (f : Bs → Bs) (c : Bs × Bs) : Prop := c.1 < c.2 ∧ f c.1 = f c.2
instance (f : Bs → Bs) (c : Bs × Bs) : Decidable (clash f c) := by unfold clash; infer_instance
/-- the first clash among the pairs of S -/
def ClashOf (f : Bs → Bs) (S : Bs × Bs → Prop) : Option (Bs × Bs) → Prop
  | none => ∀ c, S c → ¬ clash f c
  | some d => S d ∧ clash f d ∧ ∀ c, S c → clash f c → ¬ ahead c d
/-- is it ahead of what was found -/
def firstO : Option (Bs × Bs) → Bs × Bs → Bool
  | none, _ => true
  | some d, c => decide (ahead c d)
/-- the reference: one pair more -/
def step (f : Bs → Bs) (o : Option (Bs × Bs)) (c : Bs × Bs) : Option (Bs × Bs) := if clash f c ∧ firstO o c = true then some c else o
/-- the pairs that were looked at ahead of the k-th of the i-th -/
def seen (L : List Bs) (i k : Nat) : List (Bs × Bs) := (L.take i).flatMap (fun a => L.map (fun b => (a, b))) ++ (L.take k).map (fun b => (L.getD i [], b))
def collTo (f : Bs → Bs) (L : List Bs) (i k : Nat) : Option (Bs × Bs) := (seen L i k).foldl (step f) none
/-- which two of the names clash -/
def collO (f : Bs → Bs) (L : List Bs) : Option (Bs × Bs) := collTo f L L.length 0
/-- the code: from the last name on -/
def back (f : Bs → Bs) : List Bs → Option (Bs × Bs)
  | [] => none
  | s :: r => match r.find? (fun t => decide (f t = f s)) with | some t => some (s, t) | none => back f r
def once (L : List Bs) : List Bs := Lib.compactUpTo (L.mergeSort fun x y => decide (x ≤ y)).toArray L.length
end Co
end Go.Proofs.YtgoibhbmndpgpaaGreatDoor
