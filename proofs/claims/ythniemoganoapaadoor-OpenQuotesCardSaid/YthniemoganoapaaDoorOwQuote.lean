/- A quoted text is read as what it was (layer 17). -/
import Derived.Test.YthniemoganoapaaDoorOwDfaC
set_option linter.unusedVariables false
set_option linter.unusedSimpArgs false
set_option maxRecDepth 100000
namespace Go.Proofs.YthniemoganoapaaDoor
namespace Ow
open Utf

def esc (q : Bool) (c : UInt8) : Bool := decide (c = 92) || decide (c = 10) || (decide (c = 34) && q)
theorem quote_cons (q : Bool) (c : UInt8) (l : List UInt8) : quote q (c :: l) = (if c = 92 then [92, 92] else if c = 34 ∧ q = true then [92, 34] else if c = 10 then [92, 110] else [c]) ++ quote q l := rfl
theorem quote_plain {q : Bool} : ∀ (a l : List UInt8), (∀ c ∈ a, esc q c = false) → quote q (a ++ l) = a ++ quote q l
  | [], l, _ => rfl
  | c :: a, l, h => by
    have hc := h c (List.mem_cons_self ..)
    unfold esc at hc
    rw [Bool.or_eq_false_iff, Bool.or_eq_false_iff, decide_eq_false_iff_not, decide_eq_false_iff_not] at hc
    rw [List.cons_append, quote_cons, if_neg hc.1.1, if_neg (fun e => by rw [e.1, e.2] at hc; exact absurd hc.2 (by decide)), if_neg hc.1.2, quote_plain a l (fun d hd => h d (List.mem_cons_of_mem _ hd))]
    rfl
theorem fits_take {X : List UInt8} : ∀ (b : List (Int × Int)) (l : List UInt8), (fits b l).2 = true → fits b (l.take (fits b l).1 ++ X) = fits b l
  | [], l, h => rfl
  | x :: b, [], h => by cases h
  | x :: b, c :: l, h => by
    by_cases hc : inR x.1 x.2 c.toNat = true
    · rw [fits_yes hc] at h ⊢
      rw [List.take_succ_cons, List.cons_append, fits_yes hc, fits_take b l h]
    · rw [fits_no hc] at h; cases h
theorem front_take {v : List UInt8} (X : List UInt8) (h : (front v).2 = true) : front (v.take (front v).1 ++ X) = front v := by
  cases v with
  | nil => cases h
  | cons c l =>
    have hp := front_whole h
    have e : ∀ l', front (c :: l') = match shapes.find? (opens c) with | some b => fits b (c :: l') | none => (0, false) := fun _ => rfl
    obtain ⟨k, hk⟩ : ∃ k, (front (c :: l)).1 = k + 1 := ⟨(front (c :: l)).1 - 1, by omega⟩
    rw [hk, List.take_succ_cons, List.cons_append]
    rw [e l] at h hk
    rw [e (l.take k ++ X), e l]
    cases hf : shapes.find? (opens c) with
    | none => rfl
    | some b =>
      rw [hf] at h hk
      have := fits_take (X := X) b (c :: l) h
      dsimp only at hk
      rw [hk, List.take_succ_cons, List.cons_append] at this
      exact this
theorem fits_lo : ∀ (b : List (Int × Int)) (l : List UInt8), (∀ x ∈ b, (128 : Int) ≤ x.1) → ∀ c ∈ l.take (fits b l).1, 128 ≤ c.toNat
  | [], l, _, c, hc => by simp [fits] at hc
  | x :: b, [], _, c, hc => by cases hc
  | x :: b, d :: l, h, c, hc => by
    by_cases hd : inR x.1 x.2 d.toNat = true
    · rw [fits_yes hd, List.take_succ_cons] at hc
      rcases List.mem_cons.1 hc with rfl | hc
      · have := h x (List.mem_cons_self ..)
        unfold inR at hd
        rw [Bool.and_eq_true, decide_eq_true_eq, decide_eq_true_eq] at hd
        omega
      · exact fits_lo b l (fun y hy => h y (List.mem_cons_of_mem _ hy)) c hc
    · rw [fits_no hd] at hc; cases hc
theorem shapes_lo : ∀ b ∈ shapes, b = [(0, 127)] ∨ ∀ x ∈ b, (128 : Int) ≤ x.1 := by decide
/-- a scalar that is no byte that is escaped holds none -/
theorem front_esc {q : Bool} {c : UInt8} {l : List UInt8} (hw : (front (c :: l)).2 = true) (hc : esc q c = false) : ∀ d ∈ (c :: l).take (front (c :: l)).1, esc q d = false := by
  have e : front (c :: l) = match shapes.find? (opens c) with | some b => fits b (c :: l) | none => (0, false) := rfl
  cases hf : shapes.find? (opens c) with
  | none => rw [e, hf] at hw; cases hw
  | some b =>
    rw [e, hf]
    dsimp only
    intro d hd
    rcases shapes_lo b (List.mem_of_find?_eq_some hf) with rfl | h
    · have h1 := fits_le [(0, 127)] (c :: l)
      have : d ∈ (c :: l).take 1 := by
        obtain ⟨j, hj, rfl⟩ := List.mem_iff_getElem.1 hd
        rw [List.length_take] at hj
        simp only [List.length_cons, List.length_nil] at h1
        have hj0 : j = 0 := by omega
        subst hj0
        simp
      simp at this
      rw [this]; exact hc
    · have := fits_lo b (c :: l) h d hd
      unfold esc
      have e1 : ¬ d = 92 := by intro e; subst e; exact absurd this (by decide)
      have e2 : ¬ d = 10 := by intro e; subst e; exact absurd this (by decide)
      have e3 : ¬ d = 34 := by intro e; subst e; exact absurd this (by decide)
      simp [e1, e2, e3]
theorem front_low {c : UInt8} (l : List UInt8) (h : c.toNat < 128) : front (c :: l) = (1, true) := by
  have hb : opens c [(0, 127)] = true := by
    show inR 0 127 c.toNat = true
    unfold inR; simp; omega
  have e : front (c :: l) = match shapes.find? (opens c) with | some b => fits b (c :: l) | none => (0, false) := rfl
  rw [e, show shapes.find? (opens c) = some [(0, 127)] from by unfold shapes; rw [List.find?_cons_of_pos hb]]
  show fits [(0, 127)] (c :: l) = _
  rw [fits_yes hb]; rfl
theorem good_cons {c : UInt8} {l : List UInt8} (h : Utf.bad (c :: l) < 0) : (front (c :: l)).2 = true ∧ Utf.bad ((c :: l).drop (front (c :: l)).1) < 0 := by
  have h1 : (steps (c :: l)).2.2 = true := by
    unfold Utf.bad at h
    split at h
    · rename_i h1; exact h1
    · omega
  cases hw : (front (c :: l)).2 with
  | false => rw [steps_not (by simp) hw] at h1; cases h1
  | true =>
    refine ⟨rfl, ?_⟩
    rw [steps_whole (by simp) hw] at h1
    unfold Utf.bad
    rw [if_pos h1]; decide

theorem str_quote {q : Bool} {e : UInt8} {bad marks : List UInt8} (he : (92 : UInt8) ≠ e) (h92 : marks.contains 92 = true) (h110 : marks.contains 110 = true) (h34 : q = true → marks.contains 34 = true)
    (hp : ∀ c, esc q c = false → c ≠ e ∧ bad.contains c = false) (r : List UInt8) : ∀ (n : Nat) (v : List UInt8), v.length ≤ n → Utf.bad v < 0 → str e bad marks 110 (quote q v ++ e :: r) = .ok v (e :: r) := by
  intro n
  induction n with
  | zero =>
    intro v hv hg
    obtain rfl : v = [] := List.eq_nil_of_length_eq_zero (by omega)
    exact str_end r
  | succ n ih =>
    intro v hv hg
    cases v with
    | nil => exact str_end r
    | cons c l =>
      obtain ⟨hw, hg2⟩ := good_cons hg
      rw [List.length_cons] at hv
      by_cases h1 : c = 92
      · subst h1
        rw [front_low l (by decide)] at hg2
        rw [quote_cons, if_pos rfl]
        show str e bad marks 110 (92 :: 92 :: (quote q l ++ e :: r)) = _
        rw [str_esc he, if_pos h92, ih l (by omega) hg2]; rfl
      by_cases h2 : c = 34 ∧ q = true
      · obtain ⟨rfl, h2⟩ := h2
        rw [front_low l (by decide)] at hg2
        rw [quote_cons, if_neg (by decide), if_pos ⟨rfl, h2⟩]
        show str e bad marks 110 (92 :: 34 :: (quote q l ++ e :: r)) = _
        rw [str_esc he, if_pos (h34 h2), ih l (by omega) hg2]; rfl
      by_cases h3 : c = 10
      · subst h3
        rw [front_low l (by decide)] at hg2
        rw [quote_cons, if_neg (by decide), if_neg (fun h => absurd h.1 (by decide)), if_pos rfl]
        show str e bad marks 110 (92 :: 110 :: (quote q l ++ e :: r)) = _
        rw [str_esc he, if_pos h110, ih l (by omega) hg2]; rfl
      have hc : esc q c = false := by
        unfold esc
        rw [decide_eq_false h1, decide_eq_false h3]
        cases q with
        | false => simp
        | true => rw [decide_eq_false (fun h => h2 ⟨h, rfl⟩)]; rfl
      have hall := front_esc hw hc
      have hk := front_whole hw
      have hle := (front_le (c :: l)).1
      have e1 : quote q (c :: l) = (c :: l).take (front (c :: l)).1 ++ quote q ((c :: l).drop (front (c :: l)).1) := by
        rw [← quote_plain _ _ hall, List.take_append_drop]
      have hd := drop_lt (l := c :: l) (by simp) hw
      rw [e1, List.append_assoc]
      have hf := front_take (quote q ((c :: l).drop (front (c :: l)).1) ++ e :: r) hw
      have ihd := ih ((c :: l).drop (front (c :: l)).1) (by rw [List.length_cons] at hd; omega) hg2
      obtain ⟨k, hk2⟩ : ∃ k, (front (c :: l)).1 = k + 1 := ⟨(front (c :: l)).1 - 1, by omega⟩
      generalize hT : quote q ((c :: l).drop (front (c :: l)).1) ++ e :: r = T at *
      have hlen : ((c :: l).take (front (c :: l)).1).length = (front (c :: l)).1 := by rw [List.length_take]; omega
      have ec : (c :: l).take (front (c :: l)).1 ++ T = c :: (l.take k ++ T) := by rw [hk2]; rfl
      obtain ⟨p1, p2⟩ := hp c hc
      rw [ec] at hf ⊢
      rw [str_yes p1 h1 p2 (by rw [hf]; exact hw), hf, ← ec]
      rw [List.take_left' hlen, List.drop_left' hlen, ihd]
      show Out.ok ((c :: l).take (front (c :: l)).1 ++ (c :: l).drop (front (c :: l)).1) (e :: r) = _
      rw [List.take_append_drop]
theorem str_q (r v : List UInt8) (h : Utf.bad v < 0) : str 34 [10] [92, 34, 110] 110 (quote true v ++ 34 :: r) = .ok v (34 :: r) := by
  refine str_quote (by decide) (by decide) (by decide) (fun _ => by decide) (fun c hc => ?_) r _ v (Nat.le_refl _) h
  unfold esc at hc
  rw [Bool.or_eq_false_iff, Bool.or_eq_false_iff, Bool.and_true, decide_eq_false_iff_not, decide_eq_false_iff_not, decide_eq_false_iff_not] at hc
  exact ⟨hc.2, by simp [hc.1.2]⟩
theorem str_h (r v : List UInt8) (h : Utf.bad v < 0) : str 10 [] [92, 110] 110 (quote false v ++ 10 :: r) = .ok v (10 :: r) := by
  refine str_quote (by decide) (by decide) (by decide) (fun h => by cases h) (fun c hc => ?_) r _ v (Nat.le_refl _) h
  unfold esc at hc
  rw [Bool.or_eq_false_iff, Bool.or_eq_false_iff, decide_eq_false_iff_not, decide_eq_false_iff_not] at hc
  exact ⟨hc.1.2, rfl⟩

/-- no line feed; a quote only behind a backslash -/
theorem quote_clean : ∀ (v : List UInt8) (i : Nat) (c : UInt8), (quote true v)[i]? = some c → c ≠ 10 ∧ (c = 34 → 0 < i ∧ (quote true v)[i - 1]? = some 92)
  | [], i, c, h => by cases h
  | d :: v, i, c, h => by
    have ih := quote_clean v
    rw [quote_cons] at h ⊢
    have two : ∀ x y : UInt8, y ≠ 10 → x = 92 → ([x, y] ++ quote true v)[i]? = some c → c ≠ 10 ∧ (c = 34 → 0 < i ∧ ([x, y] ++ quote true v)[i - 1]? = some 92) := by
      intro x y hy hx h
      subst hx
      match i, h with
      | 0, h => obtain rfl : (92 : UInt8) = c := by simpa using h
                exact ⟨by decide, fun e => absurd e (by decide)⟩
      | 1, h => obtain rfl : y = c := by simpa using h
                exact ⟨hy, fun _ => ⟨by omega, rfl⟩⟩
      | i + 2, h =>
        have h' : (quote true v)[i]? = some c := by simpa using h
        obtain ⟨k1, k2⟩ := ih i c h'
        refine ⟨k1, fun e => ⟨by omega, ?_⟩⟩
        obtain ⟨k3, k4⟩ := k2 e
        obtain ⟨j, rfl⟩ : ∃ j, i = j + 1 := ⟨i - 1, by omega⟩
        simpa using k4
    by_cases h1 : d = 92
    · rw [if_pos h1] at h ⊢; exact two 92 92 (by decide) rfl h
    rw [if_neg h1] at h ⊢
    by_cases h2 : d = 34 ∧ true = true
    · rw [if_pos h2] at h ⊢; exact two 92 34 (by decide) rfl h
    rw [if_neg h2] at h ⊢
    by_cases h3 : d = 10
    · rw [if_pos h3] at h ⊢; exact two 92 110 (by decide) rfl h
    rw [if_neg h3] at h ⊢
    match i, h with
    | 0, h => obtain rfl : d = c := by simpa using h
              exact ⟨h3, fun e => absurd ⟨e, rfl⟩ h2⟩
    | i + 1, h =>
      have h' : (quote true v)[i]? = some c := by simpa using h
      obtain ⟨k1, k2⟩ := ih i c h'
      refine ⟨k1, fun e => ⟨by omega, ?_⟩⟩
      obtain ⟨k3, k4⟩ := k2 e
      obtain ⟨j, rfl⟩ : ∃ j, i = j + 1 := ⟨i - 1, by omega⟩
      simpa using k4
theorem quote_len : ∀ (v : List UInt8), v.length ≤ (quote false v).length ∧ (quote false v).length ≤ (quote true v).length ∧ (quote true v).length ≤ 2 * v.length
  | [] => by simp [quote]
  | c :: v => by
    obtain ⟨h1, h2, h3⟩ := quote_len v
    have two : ∀ q, (quote q (c :: v)).length = (if c = 92 then 2 else if c = 34 ∧ q = true then 2 else if c = 10 then 2 else 1) + (quote q v).length := fun q => by
      rw [quote_cons, List.length_append]
      congr 1
      split
      · rfl
      split
      · rfl
      split <;> rfl
    have l1 := two true
    have l2 := two false
    rw [List.length_cons]
    by_cases a : c = 92
    · rw [if_pos a] at l1 l2; omega
    rw [if_neg a] at l1 l2
    rw [if_neg (fun h => by cases h.2)] at l2
    by_cases b : c = 34
    · have h10 : ¬ c = 10 := by rw [b]; decide
      rw [if_pos ⟨b, rfl⟩] at l1
      rw [if_neg h10] at l2
      omega
    rw [if_neg (fun h => b h.1)] at l1
    by_cases d : c = 10
    · rw [if_pos d] at l1 l2; omega
    · rw [if_neg d] at l1 l2; omega

def tl2 (X : List UInt8) : List UInt8 := 44 :: 99 :: 61 :: 34 :: 34 :: 125 :: 32 :: 49 :: 10 :: 35 :: 32 :: 69 :: 79 :: 70 :: X
theorem bind_of {α β : Type} {o : Out α} {f : α → List UInt8 → Out β} {v : α} {r : List UInt8} (h : o = .ok v r) : o.bind f = f v r := by rw [h]; rfl
theorem tagB (N : Nat) (X : List UInt8) : tag1 N (99 :: 61 :: 34 :: 34 :: X) = .ok ⟨[99], [], N - (X.length + 4), N - (X.length + 1)⟩ X := by
  unfold tag1
  rw [bind_of (show run 3 [] true (99 :: 61 :: 34 :: 34 :: X) = .ok [99] (61 :: 34 :: 34 :: X) from rfl),
    bind_of (show lit [61, 34] (61 :: 34 :: 34 :: X) = .ok () (34 :: X) from rfl), bind_of (str_end X), bind_of (show lit [34] (34 :: X) = .ok () X from rfl)]
  rfl
theorem tagA {q v : List UInt8} (hq : ∀ r, str 34 [10] [92, 34, 110] 110 (q ++ 34 :: r) = .ok v (34 :: r)) (N : Nat) (X : List UInt8) : ∃ a b, tag1 N (98 :: 61 :: 34 :: (q ++ 34 :: X)) = .ok ⟨[98], v, a, b⟩ X := by
  refine ⟨N - (98 :: 61 :: 34 :: (q ++ 34 :: X)).length, N - (q ++ 34 :: X).length, ?_⟩
  · unfold tag1
    rw [bind_of (show run 3 [] true (98 :: 61 :: 34 :: (q ++ 34 :: X)) = .ok [98] (61 :: 34 :: (q ++ 34 :: X)) from rfl),
      bind_of (show lit [61, 34] (61 :: 34 :: (q ++ 34 :: X)) = .ok () (q ++ 34 :: X) from rfl), bind_of (hq X), bind_of (show lit [34] (34 :: X) = .ok () X from rfl)]
theorem sampleQ {q v : List UInt8} (hq : ∀ r, str 34 [10] [92, 34, 110] 110 (q ++ 34 :: r) = .ok v (34 :: r)) (N : Nat) (X : List UInt8) :
    ∃ x, sample N (97 :: 123 :: 98 :: 61 :: 34 :: (q ++ 34 :: tl2 X)) = .ok x (10 :: 35 :: 32 :: 69 :: 79 :: 70 :: X) ∧ ∃ a b, x.tags = [a, b] ∧ a.v = v ∧ b.v = [] := by
  obtain ⟨a, b, hA⟩ := tagA hq N (tl2 X)
  have hT : ∃ t, tags N (98 :: 61 :: 34 :: (q ++ 34 :: tl2 X)) = .ok [⟨[98], v, a, b⟩, t] (32 :: 49 :: 10 :: 35 :: 32 :: 69 :: 79 :: 70 :: X) ∧ t.v = [] := by
    refine ⟨⟨[99], [], N - ((125 :: 32 :: 49 :: 10 :: 35 :: 32 :: 69 :: 79 :: 70 :: X).length + 4), N - ((125 :: 32 :: 49 :: 10 :: 35 :: 32 :: 69 :: 79 :: 70 :: X).length + 1)⟩, ?_, rfl⟩
    · unfold tags
      rw [List.length_cons, List.length_cons]
      generalize (34 :: (q ++ 34 :: tl2 X)).length = g
      rw [show tagsF (g + 1 + 1 + 1) N (98 :: 61 :: 34 :: (q ++ 34 :: tl2 X)) = (tag1 N (98 :: 61 :: 34 :: (q ++ 34 :: tl2 X))).bind fun t r => if r.head? = some 44 then (tagsF (g + 1 + 1) N r.tail).map (t :: ·) else (lit [125] r).bind fun _ r' => .ok [t] r' from rfl,
        bind_of hA, if_pos (show (tl2 X).head? = some 44 from rfl)]
      rw [show (tl2 X).tail = 99 :: 61 :: 34 :: 34 :: (125 :: 32 :: 49 :: 10 :: 35 :: 32 :: 69 :: 79 :: 70 :: X) from rfl]
      generalize hX : 125 :: 32 :: 49 :: 10 :: 35 :: 32 :: 69 :: 79 :: 70 :: X = Y
      rw [show tagsF (g + 1 + 1) N (99 :: 61 :: 34 :: 34 :: Y) = (tag1 N (99 :: 61 :: 34 :: 34 :: Y)).bind fun t r => if r.head? = some 44 then (tagsF (g + 1) N r.tail).map (t :: ·) else (lit [125] r).bind fun _ r' => .ok [t] r' from rfl,
        bind_of (tagB N Y), if_neg (by rw [← hX]; simp), bind_of (show lit [125] Y = .ok () (32 :: 49 :: 10 :: 35 :: 32 :: 69 :: 79 :: 70 :: X) by rw [← hX]; rfl)]
      rfl
  obtain ⟨t, hT, ht⟩ := hT
  refine ⟨⟨0, [97], N - (97 :: 123 :: 98 :: 61 :: 34 :: (q ++ 34 :: tl2 X)).length, [⟨[98], v, a, b⟩, t], List.take ((49 :: 10 :: 35 :: 32 :: 69 :: 79 :: 70 :: X).length - (10 :: 35 :: 32 :: 69 :: 79 :: 70 :: X).length) (49 :: 10 :: 35 :: 32 :: 69 :: 79 :: 70 :: X), N - (49 :: 10 :: 35 :: 32 :: 69 :: 79 :: 70 :: X).length, false, [], 0⟩, ?_, ⟨[98], v, a, b⟩, t, rfl, rfl, ht⟩
  · unfold sample
    rw [bind_of (show run 2 [] true (97 :: 123 :: 98 :: 61 :: 34 :: (q ++ 34 :: tl2 X)) = .ok [97] (123 :: 98 :: 61 :: 34 :: (q ++ 34 :: tl2 X)) from rfl)]
    rw [if_pos (show (123 :: 98 :: 61 :: 34 :: (q ++ 34 :: tl2 X)).head? = some 123 from rfl), show (123 :: 98 :: 61 :: 34 :: (q ++ 34 :: tl2 X)).tail = 98 :: 61 :: 34 :: (q ++ 34 :: tl2 X) from rfl, if_neg (show ¬ (98 :: 61 :: 34 :: (q ++ 34 :: tl2 X)).head? = some 125 from by simp), bind_of hT,
      bind_of (show lit [32] (32 :: 49 :: 10 :: 35 :: 32 :: 69 :: 79 :: 70 :: X) = .ok () (49 :: 10 :: 35 :: 32 :: 69 :: 79 :: 70 :: X) from rfl),
      bind_of (show num false (49 :: 10 :: 35 :: 32 :: 69 :: 79 :: 70 :: X) = .ok (List.take ((49 :: 10 :: 35 :: 32 :: 69 :: 79 :: 70 :: X).length - (10 :: 35 :: 32 :: 69 :: 79 :: 70 :: X).length) (49 :: 10 :: 35 :: 32 :: 69 :: 79 :: 70 :: X)) (10 :: 35 :: 32 :: 69 :: 79 :: 70 :: X) from rfl)]
    rw [if_neg (by simp)]
/-- the text that OpenQuotes makes -/
def qText (h q : List UInt8) : List UInt8 := 35 :: 32 :: 72 :: 69 :: 76 :: 80 :: 32 :: 97 :: 32 :: (h ++ 10 :: 97 :: 123 :: 98 :: 61 :: 34 :: (q ++ 34 :: tl2 [10]))
theorem rows_q {v : List UInt8} (hv : Utf.bad v < 0) (N : Nat) : ∃ x y a b, rows N (qText (quote false v) (quote true v)) = .ok [x, y] [] ∧ x.k = 3 ∧ x.text = v ∧ y.tags = [a, b] ∧ a.v = v ∧ b.v = [] := by
  have hq := fun r => str_q r v hv
  have hh := fun r => str_h r v hv
  generalize quote false v = h at *
  generalize quote true v = q at *
  obtain ⟨y, hy, a, b, h1, h2, h3⟩ := sampleQ hq N [10]
  refine ⟨⟨3, [97], N - (97 :: 32 :: (h ++ 10 :: 97 :: 123 :: 98 :: 61 :: 34 :: (q ++ 34 :: tl2 [10]))).length, [], v, N - (h ++ 10 :: 97 :: 123 :: 98 :: 61 :: 34 :: (q ++ 34 :: tl2 [10])).length, false, [], 0⟩, y, a, b, ?_, rfl, rfl, h1, h2, h3⟩
  · unfold rows qText
    rw [show (35 :: 32 :: 72 :: 69 :: 76 :: 80 :: 32 :: 97 :: 32 :: (h ++ 10 :: 97 :: 123 :: 98 :: 61 :: 34 :: (q ++ 34 :: tl2 [10]))).length + 1 = (76 :: 80 :: 32 :: 97 :: 32 :: (h ++ 10 :: 97 :: 123 :: 98 :: 61 :: 34 :: (q ++ 34 :: tl2 [10]))).length + 1 + 1 + 1 + 1 + 1 from rfl]
    generalize (76 :: 80 :: 32 :: 97 :: 32 :: (h ++ 10 :: 97 :: 123 :: 98 :: 61 :: 34 :: (q ++ 34 :: tl2 [10]))).length = g
    generalize hX : 97 :: 123 :: 98 :: 61 :: 34 :: (q ++ 34 :: tl2 [10]) = X at *
    have R : ∀ (f : Nat) (l : List UInt8), rowsF (f + 1) N l = (line N l).bind fun o r => match o with | none => .ok [] r | some x => (lit [10] r).bind fun _ r' => (rowsF f N r').map (x :: ·) := fun f l => rfl
    have hl : line N (35 :: 32 :: 72 :: 69 :: 76 :: 80 :: 32 :: 97 :: 32 :: (h ++ 10 :: X)) = .ok (some ⟨3, [97], N - (97 :: 32 :: (h ++ 10 :: X)).length, [], v, N - (h ++ 10 :: X).length, false, [], 0⟩) (10 :: X) := by
      unfold line
      rw [if_pos (by rfl), bind_of (show lit [35, 32] (35 :: 32 :: 72 :: 69 :: 76 :: 80 :: 32 :: 97 :: 32 :: (h ++ 10 :: X)) = .ok () (72 :: 69 :: 76 :: 80 :: 32 :: 97 :: 32 :: (h ++ 10 :: X)) from rfl), told_cons, if_neg (by decide), if_neg (by decide), if_neg (by decide), if_pos rfl,
        bind_of (show lit [72, 69, 76, 80, 32] (72 :: 69 :: 76 :: 80 :: 32 :: 97 :: 32 :: (h ++ 10 :: X)) = .ok () (97 :: 32 :: (h ++ 10 :: X)) from rfl)]
      unfold head
      rw [bind_of (show run 2 [] true (97 :: 32 :: (h ++ 10 :: X)) = .ok [97] (32 :: (h ++ 10 :: X)) from rfl), bind_of (show lit [32] (32 :: (h ++ 10 :: X)) = .ok () (h ++ 10 :: X) from rfl), bind_of (show text 3 (h ++ 10 :: X) = .ok v (10 :: X) from hh X)]
    have hs : line N X = .ok (some y) (10 :: 35 :: 32 :: 69 :: 79 :: 70 :: [10]) := by
      unfold line
      rw [if_neg (by rw [← hX]; simp), hy]; rfl
    have he : line N (35 :: 32 :: 69 :: 79 :: 70 :: [10]) = .ok none [] := by rfl
    rw [R, bind_of hl]
    show ((lit [10] (10 :: X)).bind _) = _
    rw [bind_of (show lit [10] (10 :: X) = .ok () X from rfl), R, bind_of hs]
    show (((lit [10] (10 :: 35 :: 32 :: 69 :: 79 :: 70 :: [10])).bind _).map _) = _
    rw [bind_of (show lit [10] (10 :: 35 :: 32 :: 69 :: 79 :: 70 :: [10]) = .ok () (35 :: 32 :: 69 :: 79 :: 70 :: [10]) from rfl), R, bind_of he]
    rfl

end Ow
end Go.Proofs.YthniemoganoapaaDoor
