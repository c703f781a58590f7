/- The open format's words as a machine that goes byte by byte (layer 17): where it dies, whether it may end there; it says the same as the words piece by piece (OwPlain). -/
import Derived.Test.YthniemoganoapaaDoorOwPlain
set_option linter.unusedVariables false
set_option linter.unusedSimpArgs false
namespace Go.Proofs.YthniemoganoapaaDoor
namespace Ow
open Utf

inductive Cl where
  | is (b : UInt8) | nm | nm1 | lb | lb1 | sm | dg
def Cl.has : Cl → UInt8 → Bool
  | .is b, c => decide (c = b)
  | .nm, c => inC 2 c
  | .nm1, c => inC 2 c && !digit c
  | .lb, c => inC 3 c
  | .lb1, c => inC 3 c && !digit c
  | .sm, c => inC 1 c
  | .dg, c => digit c
/-- the ways out of a state: 0 a line's begin; 1..9 # to EOF; 10.. TYPE; 30.. UNIT; 50.. HELP; 20.. a sample; 40.. its numbers -/
def tab : Nat → List (Cl × Nat)
  | 0 => [(.is 35, 1), (.nm1, 20)] | 1 => [(.is 32, 2)] | 2 => [(.is 69, 3), (.is 84, 10), (.is 85, 30), (.is 72, 50)] | 3 => [(.is 79, 4)] | 4 => [(.is 70, 8)] | 8 => [(.is 10, 9)]
  | 10 => [(.is 89, 11)] | 11 => [(.is 80, 12)] | 12 => [(.is 69, 13)] | 13 => [(.is 32, 14)] | 14 => [(.nm1, 15)] | 15 => [(.nm, 15), (.is 32, 16)] | 16 => [(.sm, 17)] | 17 => [(.sm, 17), (.is 10, 0)]
  | 30 => [(.is 78, 31)] | 31 => [(.is 73, 32)] | 32 => [(.is 84, 33)] | 33 => [(.is 32, 34)] | 34 => [(.nm1, 35)] | 35 => [(.nm, 35), (.is 32, 36)] | 36 => [(.nm, 37)] | 37 => [(.nm, 37), (.is 10, 0)]
  | 50 => [(.is 69, 51)] | 51 => [(.is 76, 52)] | 52 => [(.is 80, 53)] | 53 => [(.is 32, 54)] | 54 => [(.nm1, 55)] | 55 => [(.nm, 55), (.is 32, 56)] | 56 => [(.is 10, 0), (.is 92, 57)] | 57 => [(.is 92, 56), (.is 110, 56)]
  | 20 => [(.nm, 20), (.is 123, 21), (.is 32, 40)] | 21 => [(.is 125, 28), (.lb1, 22)] | 22 => [(.lb, 22), (.is 61, 23)] | 23 => [(.is 34, 24)] | 24 => [(.is 34, 25), (.is 92, 26)] | 26 => [(.is 92, 24), (.is 34, 24), (.is 110, 24)]
  | 25 => [(.is 44, 27), (.is 125, 28)] | 27 => [(.lb1, 22)] | 28 => [(.is 32, 40)]
  | 40 => [(.is 45, 41), (.dg, 42)] | 41 => [(.dg, 42)] | 42 => [(.dg, 42), (.is 46, 43), (.is 32, 45), (.is 10, 0)] | 43 => [(.dg, 44)] | 44 => [(.dg, 44), (.is 32, 45), (.is 10, 0)]
  | 45 => [(.is 45, 46), (.dg, 47)] | 46 => [(.dg, 47)] | 47 => [(.dg, 47), (.is 46, 48), (.is 10, 0)] | 48 => [(.dg, 49)] | 49 => [(.dg, 49), (.is 10, 0)]
  | _ => []
abbrev Sta := Nat × List (Int × Int)
/-- a scalar's first byte -/
def sc (q : Nat) (c : UInt8) : Option Sta := (shapes.find? (opens c)).map fun b => (q, b.drop 1)
def tr (q : Nat) (c : UInt8) : Option Sta :=
  match (tab q).find? (fun x => x.1.has c) with
  | some x => some (x.2, [])
  | none => if (q = 24 ∧ c ≠ 10) ∨ q = 56 then sc q c else none
def st (s : Sta) (c : UInt8) : Option Sta :=
  match s.2 with
  | [] => tr s.1 c
  | x :: r => if inR x.1 x.2 c.toNat then some (s.1, r) else none
def fin (s : Sta) : Bool := s.2.isEmpty && (decide (s.1 = 8) || decide (s.1 = 9))
/-- what is left where it dies, or ends too early; none: it is a text -/
def dr : Sta → List UInt8 → Option (List UInt8)
  | s, [] => if fin s then none else some []
  | s, c :: l => match st s c with | none => some (c :: l) | some s' => dr s' l

theorem dr_cons (q : Nat) (c : UInt8) (l : List UInt8) : dr (q, []) (c :: l) = match tr q c with | none => some (c :: l) | some s' => dr s' l := rfl
theorem dr_nil {q : Nat} (h : q ≠ 8 ∧ q ≠ 9) : dr (q, []) [] = some [] := by
  have h1 : fin (q, []) = false := by unfold fin; simp [h.1, h.2]
  unfold dr; rw [h1]; rfl
/-- one byte on: the ways -/
def go (t : List (Cl × Nat)) (c : UInt8) : Option Nat := (t.find? (fun x => x.1.has c)).map (·.2)
theorem tr_go {q : Nat} (h : q ≠ 24 ∧ q ≠ 56) (c : UInt8) : tr q c = (go (tab q) c).map fun q' => (q', []) := by
  unfold tr go
  cases (tab q).find? (fun x => x.1.has c) with
  | none => rw [if_neg (by omega)]; rfl
  | some x => rfl

/-- what follows a piece -/
def Out.cont {α : Type} (o : Out α) (f : List UInt8 → Option (List UInt8)) : Option (List UInt8) :=
  match o with
  | .fell r => some r
  | .ok _ r => f r
theorem cont_bind {α β : Type} (o : Out α) (g : α → List UInt8 → Out β) (f : List UInt8 → Option (List UInt8)) : (o.bind g).cont f = match o with | .fell r => some r | .ok v r => (g v r).cont f := by cases o <;> rfl
theorem cont_map {α β : Type} (o : Out α) (g : α → β) (f : List UInt8 → Option (List UInt8)) : (o.map g).cont f = o.cont f := by cases o <;> rfl

theorem dr_is {q q' : Nat} {t : UInt8} (h : tab q = [(.is t, q')]) (hq : q ≠ 24 ∧ q ≠ 56 ∧ q ≠ 8 ∧ q ≠ 9) (l : List UInt8) : dr (q, []) l = (lit [t] l).cont (dr (q', [])) := by
  cases l with
  | nil => exact dr_nil ⟨hq.2.2.1, hq.2.2.2⟩
  | cons c l =>
    rw [dr_cons, tr_go ⟨hq.1, hq.2.1⟩, h]
    unfold go lit
    by_cases e : c = t
    · rw [if_pos e]; simp [Cl.has, e, lit, Out.cont]
    · rw [if_neg e]; simp [Cl.has, e, Out.cont]
theorem lit_cons (t : UInt8) (ts l : List UInt8) : lit (t :: ts) l = (lit [t] l).bind fun _ r => lit ts r := by
  cases l with
  | nil => rfl
  | cons c l =>
    by_cases e : c = t
    · simp [lit, e, Out.bind]
    · simp [lit, e, Out.bind]
theorem dr_lit {q q1 q' : Nat} {t : UInt8} {ts : List UInt8} (h : tab q = [(.is t, q1)]) (hq : q ≠ 24 ∧ q ≠ 56 ∧ q ≠ 8 ∧ q ≠ 9) (ih : ∀ l, dr (q1, []) l = (lit ts l).cont (dr (q', []))) (l : List UInt8) :
    dr (q, []) l = (lit (t :: ts) l).cont (dr (q', [])) := by
  rw [lit_cons, cont_bind, dr_is h hq]
  cases lit [t] l with
  | fell r => rfl
  | ok v r => exact ih r
theorem dr_lit0 (q : Nat) (l : List UInt8) : dr (q, []) l = (lit [] l).cont (dr (q, [])) := rfl

theorem stay_nil (k : Int) : stay k [] = inC k := by funext c; unfold stay; simp
theorem take_all {p : UInt8 → Bool} : ∀ (l : List UInt8) {c : UInt8}, c ∈ l.takeWhile p → p c = true
  | [], c, h => by cases h
  | d :: l, c, h => by
    by_cases hd : p d = true
    · rw [List.takeWhile_cons_of_pos hd] at h
      rcases List.mem_cons.1 h with rfl | h
      · exact hd
      · exact take_all l h
    · rw [List.takeWhile_cons_of_neg hd] at h; cases h
/-- a run: its bytes, what is left begins with no byte of the class -/
theorem run_ok {k : Int} {first : Bool} {l v r : List UInt8} (h : run k [] first l = .ok v r) : l = v ++ r ∧ v ≠ [] ∧ (∀ c ∈ v, inC k c = true) ∧ ∀ c, r.head? = some c → inC k c = false := by
  unfold run at h
  rw [stay_nil] at h
  split at h
  · cases h
  · rename_i hh
    injection h with h1 h2
    subst h1; subst h2
    refine ⟨List.takeWhile_append_dropWhile.symm, ?_, fun c hc => take_all _ hc, fun c hc => ?_⟩
    · intro e; apply hh; rw [e]; simp
    · have := List.head?_dropWhile_not (inC k) l
      rw [hc] at this
      simpa using this
theorem run_fell {k : Int} {first : Bool} {l r : List UInt8} (h : run k [] first l = .fell r) : r = l ∧ ∀ c, l.head? = some c → (inC k c && !(first && digit c)) = false := by
  unfold run at h
  rw [stay_nil] at h
  split at h
  · rename_i hh
    injection h with h1
    refine ⟨h1.symm, fun c hc => ?_⟩
    cases l with
    | nil => cases hc
    | cons d l =>
      obtain rfl : d = c := by simpa using hc
      rw [Bool.or_eq_true] at hh
      rcases hh with hh | hh
      · rw [show num1 (d :: l) = digit d from rfl] at hh
        rw [hh]; simp
      · cases hd : inC k d with
        | false => rfl
        | true => rw [List.takeWhile_cons_of_pos hd] at hh; cases hh
  · cases h
theorem run_first {k : Int} {first : Bool} {l v r : List UInt8} (h : run k [] first l = .ok v r) {c : UInt8} (hc : l.head? = some c) : (inC k c && !(first && digit c)) = true := by
  cases l with
  | nil => cases hc
  | cons d l =>
    obtain rfl : d = c := by simpa using hc
    have h0 := h
    unfold run at h
    rw [stay_nil] at h
    split at h
    · cases h
    · rename_i hh
      rw [Bool.or_eq_true, not_or] at hh
      have h1 : (first && digit d) = false := by
        have := hh.1
        rw [show num1 (d :: l) = digit d from rfl] at this
        simpa using this
      rw [h1]
      cases hd : inC k d with
      | true => rfl
      | false => exfalso; apply hh.2; rw [List.takeWhile_cons_of_neg (by rw [hd]; decide)]; rfl
theorem dr_loop {k : Int} {q : Nat} (hb : ∀ c, inC k c = true → tr q c = some (q, [])) : ∀ (v r : List UInt8), (∀ c ∈ v, inC k c = true) → dr (q, []) (v ++ r) = dr (q, []) r
  | [], r, _ => rfl
  | c :: v, r, h => by
    rw [List.cons_append, dr_cons, hb c (h c (List.mem_cons_self ..))]
    exact dr_loop hb v r (fun d hd => h d (List.mem_cons_of_mem _ hd))
theorem dr_run {k : Int} {first : Bool} {qa qb : Nat} {l : List UInt8} (ha : ∀ c, l.head? = some c → tr qa c = if (inC k c && !(first && digit c)) = true then some (qb, []) else none) (hn : qa ≠ 8 ∧ qa ≠ 9)
    (hb : ∀ c, inC k c = true → tr qb c = some (qb, [])) : dr (qa, []) l = (run k [] first l).cont (dr (qb, [])) := by
  cases h : run k [] first l with
  | fell r =>
    obtain ⟨rfl, h1⟩ := run_fell h
    cases r with
    | nil => exact dr_nil hn
    | cons c r => rw [dr_cons, ha c rfl, if_neg (by rw [h1 c rfl]; decide)]; rfl
  | ok v r =>
    obtain ⟨rfl, hv, hall, _⟩ := run_ok h
    cases v with
    | nil => exact absurd rfl hv
    | cons c v =>
      rw [List.cons_append, dr_cons, ha c rfl, if_pos (run_first h rfl)]
      exact dr_loop hb v r (fun d hd => hall d (List.mem_cons_of_mem _ hd))

def fz (q : Nat) (l : List UInt8) (f : Nat × Bool) : Option (List UInt8) := if f.2 = true then dr (q, []) (l.drop f.1) else some (l.drop f.1)
theorem fz_succ (q : Nat) (c : UInt8) (l : List UInt8) (f : Nat × Bool) : fz q (c :: l) (f.1 + 1, f.2) = fz q l f := by unfold fz; simp only [List.drop_succ_cons]
theorem fits_yes {x : Int × Int} {ps : List (Int × Int)} {c : UInt8} {l : List UInt8} (h : inR x.1 x.2 c.toNat = true) : fits (x :: ps) (c :: l) = ((fits ps l).1 + 1, (fits ps l).2) := by rw [show fits (x :: ps) (c :: l) = if inR x.1 x.2 c.toNat = true then ((fits ps l).1 + 1, (fits ps l).2) else (0, false) from rfl, if_pos h]
theorem fits_no {x : Int × Int} {ps : List (Int × Int)} {c : UInt8} {l : List UInt8} (h : ¬ inR x.1 x.2 c.toNat = true) : fits (x :: ps) (c :: l) = (0, false) := by rw [show fits (x :: ps) (c :: l) = if inR x.1 x.2 c.toNat = true then ((fits ps l).1 + 1, (fits ps l).2) else (0, false) from rfl, if_neg h]
theorem dr_pend (q : Nat) : ∀ (ps : List (Int × Int)) (l : List UInt8), dr (q, ps) l = fz q l (fits ps l)
  | [], l => by unfold fz; simp [fits]
  | x :: ps, [] => by unfold fz; simp [fits, dr, fin]
  | x :: ps, c :: l => by
    have ih := dr_pend q ps l
    have e : dr (q, x :: ps) (c :: l) = match (if inR x.1 x.2 c.toNat then some (q, ps) else none : Option Sta) with | none => some (c :: l) | some s' => dr s' l := rfl
    rw [e]
    by_cases h : inR x.1 x.2 c.toNat = true
    · rw [if_pos h, fits_yes h, fz_succ]; exact ih
    · rw [if_neg h, fits_no h]; rfl
theorem dr_front {q : Nat} {c : UInt8} (r : List UInt8) (h : tr q c = sc q c) : dr (q, []) (c :: r) = fz q (c :: r) (front (c :: r)) := by
  rw [dr_cons, h]
  unfold sc
  have e : front (c :: r) = match shapes.find? (opens c) with | some b => fits b (c :: r) | none => (0, false) := rfl
  cases hf : shapes.find? (opens c) with
  | none => rw [e, hf]; rfl
  | some b =>
    rw [e, hf]
    have ho : opens c b = true := by simpa using List.find?_some hf
    cases b with
    | nil => cases ho
    | cons x b =>
      have ho' : inR x.1 x.2 c.toNat = true := ho
      show dr (q, b) r = fz q (c :: r) (fits (x :: b) (c :: r))
      rw [fits_yes ho', fz_succ]; exact dr_pend q b r

theorem dr_str {q qe : Nat} {e : UInt8} {bad marks : List UInt8} (hq : q ≠ 8 ∧ q ≠ 9) (hqe : qe ≠ 8 ∧ qe ≠ 9) (he : (92 : UInt8) ≠ e) (h92 : tr q 92 = some (qe, [])) (hm : ∀ d, tr qe d = if marks.contains d = true then some (q, []) else none)
    (hb : ∀ c, bad.contains c = true → c ≠ e → c ≠ 92 → tr q c = none) (hs : ∀ c, bad.contains c = false → c ≠ e → c ≠ 92 → tr q c = sc q c) :
    ∀ (n : Nat) (l : List UInt8), l.length ≤ n → dr (q, []) l = (str e bad marks 110 l).cont (dr (q, [])) := by
  intro n
  induction n with
  | zero =>
    intro l hl
    obtain rfl : l = [] := List.eq_nil_of_length_eq_zero (by omega)
    rw [str_nil]; exact dr_nil hq
  | succ n ih =>
    intro l hl
    cases l with
    | nil => rw [str_nil]; exact dr_nil hq
    | cons c r =>
      by_cases h1 : c = e
      · subst h1; rw [str_end]; rfl
      by_cases h2 : c = 92
      · subst h2
        rw [dr_cons, h92]
        cases r with
        | nil => rw [str_esc0 he]; exact dr_nil hqe
        | cons d r' =>
          show dr (qe, []) (d :: r') = _
          rw [dr_cons, hm, str_esc he]
          by_cases h3 : marks.contains d = true
          · simp only [if_pos h3]
            rw [cont_map]
            exact ih r' (by simp at hl; omega)
          · simp only [if_neg h3]; rfl
      by_cases h3 : bad.contains c = true
      · rw [str_bad h1 h2 h3, dr_cons, hb c h3 h1 h2]; rfl
      have h3' : bad.contains c = false := by simpa using h3
      rw [dr_front r (hs c h3' h1 h2)]
      unfold fz
      by_cases h4 : (front (c :: r)).2 = true
      · rw [if_pos h4, str_yes h1 h2 h3' h4, cont_map]
        have := drop_lt (l := c :: r) (by simp) h4
        exact ih _ (by omega)
      · rw [if_neg h4, str_no h1 h2 h3' h4]; rfl

end Ow
end Go.Proofs.YthniemoganoapaaDoor
