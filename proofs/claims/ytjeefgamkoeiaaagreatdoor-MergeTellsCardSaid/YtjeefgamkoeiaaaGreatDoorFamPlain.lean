/- Families in plain words: points are in one order, which goes on over three; a row of points sorted; what may be a family. -/
import Derived.Test.YtjeefgamkoeiaaaGreatDoorPtP
set_option maxRecDepth 100000
set_option linter.unusedVariables false
set_option linter.unusedSimpArgs false
namespace Go.Proofs.YtjeefgamkoeiaaaGreatDoor
open Dc

/-- an order told by a number: turned round it is the number's other sign; it goes on over three -/
structure TP {α : Type} (f : α → α → Int) : Prop where
  neg : ∀ x y, f y x = - f x y
  le : ∀ x y z, f x y ≤ 0 → f y z ≤ 0 → f x z ≤ 0
theorem TP.refl {α : Type} {f : α → α → Int} (h : TP f) (x : α) : f x x = 0 := by have := h.neg x x; omega
theorem TP.lt {α : Type} {f : α → α → Int} (h : TP f) {x y z : α} (h1 : f x y < 0) (h2 : f y z ≤ 0) : f x z < 0 := by
  have h3 := h.le x y z (by omega) h2
  rcases Int.lt_or_le (f x z) 0 with k | k
  · exact k
  · have h4 := h.le y z x h2 (by rw [h.neg]; omega)
    rw [h.neg] at h4; omega
theorem TP.lt' {α : Type} {f : α → α → Int} (h : TP f) {x y z : α} (h1 : f x y ≤ 0) (h2 : f y z < 0) : f x z < 0 := by
  have h3 := h.le x y z h1 (by omega)
  rcases Int.lt_or_le (f x z) 0 with k | k
  · exact k
  · have h4 := h.le z x y (by rw [h.neg]; omega) h1
    rw [h.neg] at h4; omega
/-- first the one, then the other -/
def lex {α : Type} (f g : α → α → Int) (x y : α) : Int := if f x y = 0 then g x y else f x y
theorem TP.lex {α : Type} {f g : α → α → Int} (hf : TP f) (hg : TP g) : TP (lex f g) where
  neg x y := by
    unfold Go.Proofs.YtjeefgamkoeiaaaGreatDoor.lex
    have h1 := hf.neg x y
    have h2 := hg.neg x y
    by_cases h : f x y = 0
    · rw [if_pos h, if_pos (by omega)]; exact h2
    · rw [if_neg h, if_neg (by omega)]; exact h1
  le x y z h1 h2 := by
    unfold Go.Proofs.YtjeefgamkoeiaaaGreatDoor.lex at h1 h2 ⊢
    by_cases a : f x y = 0
    · rw [if_pos a] at h1
      by_cases b : f y z = 0
      · rw [if_pos b] at h2
        have c : f x z = 0 := by
          have c1 := hf.le x y z (by omega) (by omega)
          have c2 := hf.le z y x (by rw [hf.neg]; omega) (by rw [hf.neg]; omega)
          rw [hf.neg] at c2; omega
        rw [if_pos c]
        exact hg.le x y z h1 h2
      · rw [if_neg b] at h2
        have c := hf.lt' (x := x) (y := y) (z := z) (by omega) (by omega)
        rw [if_neg (by omega)]; omega
    · rw [if_neg a] at h1
      by_cases b : f y z = 0
      · have c := hf.lt (x := x) (y := y) (z := z) (by omega) (by omega)
        rw [if_neg (by omega)]; omega
      · rw [if_neg b] at h2
        have c := hf.lt (x := x) (y := y) (z := z) (by omega) (by omega)
        rw [if_neg (by omega)]; omega
theorem TP.comap {α β : Type} {f : β → β → Int} (h : TP f) (k : α → β) : TP fun x y => f (k x) (k y) := ⟨fun x y => h.neg _ _, fun x y z => h.le _ _ _⟩
theorem tp_zero {α : Type} : TP fun (_ _ : α) => (0 : Int) := ⟨fun _ _ => rfl, fun _ _ _ _ _ => by decide⟩
theorem tp_ord3 : TP ord3 where
  neg x y := by
    rcases ord3_cases x y with ⟨a, b⟩ | ⟨a, b⟩ | ⟨a, b⟩
    · rw [b, ord3_gt a]; rfl
    · rw [b, ord3_lt a]
    · rw [b, ord3_eq a.symm]; rfl
  le x y z h1 h2 := by
    rcases ord3_cases x y with ⟨a, b⟩ | ⟨a, b⟩ | ⟨a, b⟩ <;> rcases ord3_cases y z with ⟨a', b'⟩ | ⟨a', b'⟩ | ⟨a', b'⟩ <;> rcases ord3_cases x z with ⟨a2, b2⟩ | ⟨a2, b2⟩ | ⟨a2, b2⟩ <;> omega
theorem tp_ff : TP ffI where
  neg x y := by cases x <;> cases y <;> decide
  le x y z := by cases x <;> cases y <;> cases z <;> decide
theorem tp_cmpL : TP cmpL := ⟨fun x y => cmpL_neg x y, fun x y z => cmpL_le_trans x y z⟩
theorem cmpP_lex (p q : Pt) : cmpP p q = lex (fun p q => cmpL p.l q.l) (lex (fun p q => ffI p.td q.td) (lex (fun p q => ord3 p.ti q.ti) (lex (fun p q => ord3 p.ro q.ro) (lex (fun p q => ffI p.inf q.inf) (lex (fun p q => cmpO p.bm p.bs q.bm q.bs) (fun _ _ => 0)))))) p q := rfl
theorem tp_cmpP : TP cmpP := by
  have h : TP (lex (fun p q : Pt => cmpL p.l q.l) (lex (fun p q => ffI p.td q.td) (lex (fun p q => ord3 p.ti q.ti) (lex (fun p q => ord3 p.ro q.ro) (lex (fun p q => ffI p.inf q.inf) (lex (fun p q => cmpO p.bm p.bs q.bm q.bs) (fun _ _ => 0))))))) :=
    (tp_cmpL.comap fun p : Pt => p.l).lex ((tp_ff.comap fun p : Pt => p.td).lex ((tp_ord3.comap fun p : Pt => p.ti).lex ((tp_ord3.comap fun p : Pt => p.ro).lex ((tp_ff.comap fun p : Pt => p.inf).lex
      ((tp_ord3.comap fun p : Pt => zv (orZ p.bm p.bs).1 (orZ p.bm p.bs).2).lex tp_zero)))))
  exact ⟨fun x y => by rw [cmpP_lex, cmpP_lex]; exact h.neg x y, fun x y z h1 h2 => by rw [cmpP_lex] at h1 h2 ⊢; exact h.le x y z h1 h2⟩
theorem sameP_refl (p : Pt) : sameP p p = true := by
  unfold sameP
  rw [tp_cmpP.refl, decide_eq_true ⟨rfl, rfl⟩]; rfl

/-- each point greater than the one before it -/
abbrev StrictP (l : List Pt) : Prop := l.Pairwise fun p q => cmpP p q < 0
/-- no two are one -/
abbrev NdP (l : List Pt) : Prop := l.Pairwise fun p q => cmpP p q ≠ 0
theorem strictP_nd {l : List Pt} (h : StrictP l) : NdP l := h.imp fun {a b} k => by omega
theorem ndP_perm {l m : List Pt} (h : l.Perm m) : NdP l ↔ NdP m := h.pairwise_iff fun {a b} k => by rw [tp_cmpP.neg]; omega
theorem strictP_unique {l m : List Pt} (h : l.Perm m) (hl : StrictP l) (hm : StrictP m) : l = m :=
  List.Perm.eq_of_pairwise (fun a b _ _ h1 h2 => by rw [tp_cmpP.neg] at h2; omega) hl hm h
theorem strictP_adj {l : List Pt} (h : ∀ (i : Nat) (p q : Pt), l[i]? = some p → l[i + 1]? = some q → cmpP p q < 0) : StrictP l := by
  unfold StrictP
  rw [List.pairwise_iff_getElem]
  intro i j hi hj hij
  obtain ⟨d, rfl⟩ : ∃ d, j = i + 1 + d := ⟨j - i - 1, by omega⟩
  induction d with
  | zero => exact h i _ _ (List.getElem?_eq_getElem hi) (List.getElem?_eq_getElem hj)
  | succ d ih =>
    have h1 := ih (by omega) (by omega)
    have h2 := h (i + 1 + d) _ _ (List.getElem?_eq_getElem (by omega)) (List.getElem?_eq_getElem (show i + 1 + d + 1 < l.length by omega))
    exact tp_cmpP.lt h1 (Int.le_of_lt h2)
theorem strictP_no {l : List Pt} {i : Nat} {p q : Pt} (h1 : l[i]? = some p) (h2 : l[i + 1]? = some q) (h : ¬ cmpP p q < 0) : ¬ StrictP l := fun hs => by
  obtain ⟨hi, rfl⟩ := List.getElem?_eq_some_iff.1 h1
  obtain ⟨hj, rfl⟩ := List.getElem?_eq_some_iff.1 h2
  exact h (List.pairwise_iff_getElem.1 hs i (i + 1) hi hj (by omega))
/-- in order, and no two one: rising -/
theorem strictP_of {l : List Pt} (h : l.Pairwise fun p q => ¬ cmpP q p < 0) (hn : NdP l) : StrictP l := by
  unfold StrictP NdP at *
  rw [List.pairwise_iff_getElem] at h hn ⊢
  intro i j hi hj hij
  have h1 := h i j hi hj hij
  have h2 := hn i j hi hj hij
  rw [tp_cmpP.neg] at h1; omega
open Classical in
/-- the row sorted, if no two of it are one -/
noncomputable def psrt (l : List Pt) : Option (List Pt) := if h : ∃ d : List Pt, d.Perm l ∧ StrictP d then some (Classical.choose h) else none
theorem psrt_is {l d : List Pt} (hp : d.Perm l) (hs : StrictP d) : psrt l = some d := by
  have h : ∃ d : List Pt, d.Perm l ∧ StrictP d := ⟨d, hp, hs⟩
  unfold psrt
  rw [dif_pos h]
  have hc := Classical.choose_spec h
  rw [strictP_unique (hc.1.trans hp.symm) hc.2 hs]
theorem psrt_no {l : List Pt} (h : ¬ NdP l) : psrt l = none := by
  unfold psrt
  rw [dif_neg]
  rintro ⟨d, hp, hs⟩
  exact h ((ndP_perm hp).1 (strictP_nd hs))
/-- two rows of points, point by point the same -/
def sameRow : List Pt → List Pt → Bool
  | [], [] => true
  | p :: l, q :: m => sameP p q && sameRow l m
  | _, _ => false
theorem sameRow_refl : ∀ l, sameRow l l = true
  | [] => rfl
  | p :: l => by rw [sameRow, sameP_refl, sameRow_refl l]; rfl
theorem sameRow_len : ∀ {l m : List Pt}, sameRow l m = true → l.length = m.length
  | [], [], _ => rfl
  | [], _ :: _, h => by cases h
  | _ :: _, [], h => by cases h
  | p :: l, q :: m, h => by
    rw [sameRow, Bool.and_eq_true] at h
    rw [List.length_cons, List.length_cons, sameRow_len h.2]
theorem sameRow_ne : ∀ {l m : List Pt}, l.length ≠ m.length → sameRow l m = false := fun {l m} h => by
  cases e : sameRow l m with
  | false => rfl
  | true => exact absurd (sameRow_len e) h
theorem sameRow_at : ∀ {l m : List Pt} {i : Nat} {p q : Pt}, l[i]? = some p → m[i]? = some q → sameRow l m = sameRow (l.drop i) (m.drop i) →
    (sameP p q = true → sameRow l m = sameRow (l.drop (i + 1)) (m.drop (i + 1))) ∧ (sameP p q = false → sameRow l m = false) := fun {l m i p q} h1 h2 h => by
  obtain ⟨hi, rfl⟩ := List.getElem?_eq_some_iff.1 h1
  obtain ⟨hj, rfl⟩ := List.getElem?_eq_some_iff.1 h2
  rw [List.drop_eq_getElem_cons hi, List.drop_eq_getElem_cons hj, sameRow] at h
  exact ⟨fun e => by rw [h, e]; rfl, fun e => by rw [h, e]; rfl⟩
theorem sameRow_end {l m : List Pt} {i : Nat} (h : sameRow l m = sameRow (l.drop i) (m.drop i)) (h1 : l.length ≤ i) (h2 : m.length ≤ i) : sameRow l m = true := by
  rw [h, List.drop_eq_nil_of_le h1, List.drop_eq_nil_of_le h2]; rfl

/-- what a family is called, as plain data -/
structure Hd where
  n : List UInt8
  k : Int
  u : List UInt8
  h : List UInt8
  deriving DecidableEq
def kindOk (k : Int) : Bool := decide (0 ≤ k ∧ k < 5)
/-- may it be a family? -/
def famOk (h : Hd) (l : List Pt) : Bool := nameOk h.n && kindOk h.k && valueOk h.u && valueOk h.h && l.all (ptOk h.k) && decide (StrictP l)
end Go.Proofs.YtjeefgamkoeiaaaGreatDoor
