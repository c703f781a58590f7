/- Which names may be where, in plain words: the document's words (legC), the code's classes of bytes (codC): they say the same. -/
import Derived.Test.YtgdhfmcipaoapaaDoorGrd
set_option maxRecDepth 100000
set_option linter.unusedVariables false
set_option linter.unusedSimpArgs false
namespace Go.Proofs.YtgdhfmcipaoapaaDoor
namespace Ch

def letter (c : UInt8) : Bool := (decide (97 ≤ c.toNat) && decide (c.toNat ≤ 122)) || (decide (65 ≤ c.toNat) && decide (c.toNat ≤ 90))
def digit (c : UInt8) : Bool := decide (48 ≤ c.toNat) && decide (c.toNat ≤ 57)
def line (c : UInt8) : Bool := decide (32 ≤ c.toNat) && decide (c.toNat ≤ 126) && !decide (c.toNat = 92)
/-- may a byte stand there: b, is another one ahead of it; q, does it part two nodes -/
def legC (p w : Int) (c : UInt8) (b q : Bool) : Bool :=
  (decide (w = 0) || decide (w = 1)) &&
  (if p = 1 then letter c || decide (c.toNat = 95) || (b && digit c) || (decide (w = 0) && decide (c.toNat = 58))
   else if p = 2 then line c && !(!b && decide (c.toNat = 35) && decide (w = 0))
   else if p = 3 then (if c.toNat = 46 then decide (w = 0) && q else letter c || digit c || decide (c.toNat = 95) || decide (c.toNat = 45) || decide (c.toNat = 58))
   else if p = 4 then letter c || digit c || decide (c.toNat = 95) || decide (c.toNat = 45) || decide (c.toNat = 46)
   else false)
/-- is the byte k between two others, the one ahead no point -/
def mid (l : List UInt8) (k : Nat) : Bool := decide (0 < k) && decide (k + 1 < l.length) && !decide ((l.getD (k - 1) 0).toNat = 46)
/-- may the byte k stand there -/
def leg (p w : Int) (l : List UInt8) (k : Nat) : Bool := match l[k]? with | none => false | some c => legC p w c (decide (0 < k)) (mid l k)
def legI (p w : Int) (l : List UInt8) (i : Int) : Bool := decide (0 ≤ i) && leg p w l i.toNat
/-- the first byte that may not stand where it does, of n from k on -/
def badGo (p w : Int) (l : List UInt8) : Nat → Nat → Int
  | 0, _ => -1
  | n + 1, k => if leg p w l k then badGo p w l n (k + 1) else (k : Int)
def bad (p w : Int) (l : List UInt8) : Int := badGo p w l l.length 0
def isName (p w : Int) (l : List UInt8) : Bool := decide (1 ≤ l.length) && decide (l.length ≤ 60) && decide (bad p w l < 0)

/-- the code's classes -/
def spans : List (Nat × Nat × Nat) := [(32, 34, 128), (35, 35, 64), (36, 44, 128), (45, 45, 8), (46, 46, 32), (47, 47, 128), (48, 57, 2), (58, 58, 16), (59, 64, 128), (65, 90, 1), (91, 91, 128), (93, 94, 128), (95, 95, 4), (96, 96, 128), (97, 122, 1), (123, 126, 128)]
def clsF : List (Nat × Nat × Nat) → Nat → Nat
  | [], _ => 0
  | (lo, hi, cl) :: r, n => if n ≤ hi then (if n < lo then 0 else cl) else clsF r n
def cls (c : UInt8) : Nat := clsF spans c.toNat
def setN (p w : Int) : Nat :=
  if w = 0 then (if p = 1 then 23 else if p = 2 then 255 else if p = 3 then 63 else if p = 4 then 47 else 0)
  else if w = 1 then (if p = 1 then 7 else if p = 2 then 255 else if p = 3 then 31 else if p = 4 then 47 else 0)
  else 0
def plC (p w : Int) (cl : Nat) (b q : Bool) : Bool :=
  if cl = 2 then !decide (p = 1) || b else if cl = 64 then !decide (w = 0) || b else if cl = 32 then !decide (p = 3) || q else true
def codC (p w : Int) (c : UInt8) (b q : Bool) : Bool := decide (setN p w &&& cls c ≠ 0) && plC p w (cls c) b q

theorem all_bytes {P : UInt8 → Prop} (h : ∀ n : Fin 256, P (UInt8.ofNat n.val)) (c : UInt8) : P c := by
  have := h ⟨c.toNat, c.toNat_lt⟩
  simpa using this
theorem cod_leg (p w : Int) (c : UInt8) (b q : Bool) : codC p w c b q = legC p w c b q := by
  revert b q
  revert c
  by_cases h0 : w = 0
  · subst h0
    by_cases h1 : p = 1
    · subst h1; exact all_bytes (by decide +kernel)
    by_cases h2 : p = 2
    · subst h2; exact all_bytes (by decide +kernel)
    by_cases h3 : p = 3
    · subst h3; exact all_bytes (by decide +kernel)
    by_cases h4 : p = 4
    · subst h4; exact all_bytes (by decide +kernel)
    intro c b q
    simp [codC, legC, setN, h1, h2, h3, h4]
  · by_cases h : w = 1
    · subst h
      by_cases h1 : p = 1
      · subst h1; exact all_bytes (by decide +kernel)
      by_cases h2 : p = 2
      · subst h2; exact all_bytes (by decide +kernel)
      by_cases h3 : p = 3
      · subst h3; exact all_bytes (by decide +kernel)
      by_cases h4 : p = 4
      · subst h4; exact all_bytes (by decide +kernel)
      intro c b q
      simp [codC, legC, setN, h1, h2, h3, h4]
    · intro c b q
      simp [codC, legC, setN, h0, h]
theorem setN_lt (p w : Int) : setN p w < 256 := by
  unfold setN
  repeat' split
  all_goals omega
theorem setN_off {p w : Int} (h : ¬ (1 ≤ p ∧ p ≤ 4)) : setN p w = 0 := by
  unfold setN
  have h1 : ¬ p = 1 := by omega
  have h2 : ¬ p = 2 := by omega
  have h3 : ¬ p = 3 := by omega
  have h4 : ¬ p = 4 := by omega
  simp [h1, h2, h3, h4]
theorem cls_lt (c : UInt8) : cls c < 256 := by
  revert c
  exact all_bytes (by decide +kernel)

theorem leg_at {p w : Int} {l : List UInt8} {k : Nat} (h : k < l.length) : leg p w l k = legC p w l[k] (decide (0 < k)) (mid l k) := by
  unfold leg; rw [List.getElem?_eq_getElem h]
theorem leg_out {p w : Int} {l : List UInt8} {k : Nat} (h : l.length ≤ k) : leg p w l k = false := by
  unfold leg; rw [List.getElem?_eq_none h]
theorem legI_at {p w : Int} {l : List UInt8} (k : Nat) : legI p w l (k : Int) = leg p w l k := by
  unfold legI; simp
theorem badGo_neg (p w : Int) (l : List UInt8) : ∀ n k, badGo p w l n k < 0 ↔ ∀ j, k ≤ j → j < k + n → leg p w l j = true
  | 0, k => by simp only [badGo]; exact ⟨fun _ j h1 h2 => absurd h2 (by omega), fun _ => by omega⟩
  | n + 1, k => by
    simp only [badGo]
    split
    · rename_i h
      rw [badGo_neg p w l n (k + 1)]
      constructor
      · intro H j h1 h2
        by_cases e : j = k
        · subst e; exact h
        · exact H j (by omega) (by omega)
      · intro H j h1 h2
        exact H j (by omega) (by omega)
    · rename_i h
      constructor
      · intro h3; omega
      · intro H; exact absurd (H k (Nat.le_refl _) (by omega)) h
theorem bad_neg {p w : Int} {l : List UInt8} : bad p w l < 0 ↔ ∀ j, j < l.length → leg p w l j = true := by
  unfold bad
  rw [badGo_neg]
  exact ⟨fun H j h => H j (Nat.zero_le _) (by omega), fun H j _ h => H j (by omega)⟩
theorem badGo_ge (p w : Int) (l : List UInt8) : ∀ n k, -1 ≤ badGo p w l n k ∧ badGo p w l n k < ((k + n : Nat) : Int) ∨ badGo p w l n k = -1
  | 0, k => by simp [badGo]
  | n + 1, k => by
    simp only [badGo]
    split
    · rcases badGo_ge p w l n (k + 1) with h | h
      · refine Or.inl ⟨h.1, ?_⟩; have := h.2; omega
      · exact Or.inr h
    · exact Or.inl ⟨by omega, by omega⟩
theorem bad_ge (p w : Int) (l : List UInt8) : -1 ≤ bad p w l ∧ bad p w l ≤ (l.length : Int) := by
  unfold bad
  rcases badGo_ge p w l l.length 0 with h | h
  · omega
  · omega
/-- in no format, of no sort no byte may stand anywhere -/
theorem legC_off {p w : Int} {c : UInt8} {b q : Bool} (h : ¬ (1 ≤ p ∧ p ≤ 4 ∧ (w = 0 ∨ w = 1))) : legC p w c b q = false := by
  unfold legC
  by_cases hw : w = 0 ∨ w = 1
  · rw [if_neg (by omega), if_neg (by omega), if_neg (by omega), if_neg (by omega), Bool.and_false]
  · have h0 : decide (w = 0) = false := decide_eq_false (fun e => hw (Or.inl e))
    have h1 : decide (w = 1) = false := decide_eq_false (fun e => hw (Or.inr e))
    rw [h0, h1]; rfl
theorem bad_off {p w : Int} {l : List UInt8} (h : ¬ (1 ≤ p ∧ p ≤ 4 ∧ (w = 0 ∨ w = 1))) (hl : 0 < l.length) : ¬ bad p w l < 0 := by
  intro hb
  have := bad_neg.1 hb 0 hl
  rw [leg_at hl, legC_off h] at this
  cases this
/-- the reference's words for a name -/
theorem isName_ref (p w : Int) (l : List UInt8) :
    isName p w l = (decide (1 ≤ l.length) && decide (l.length ≤ 60) && decide (1 ≤ p) && decide (p ≤ 4) && (decide (w = 0) || decide (w = 1)) && decide (bad p w l < 0)) := by
  unfold isName
  by_cases h : 1 ≤ p ∧ p ≤ 4 ∧ (w = 0 ∨ w = 1)
  · obtain ⟨h1, h2, h3⟩ := h
    have e : (decide (w = 0) || decide (w = 1)) = true := by rw [Bool.or_eq_true]; exact h3.imp decide_eq_true decide_eq_true
    rw [decide_eq_true h1, decide_eq_true h2, e]; simp
  · by_cases hl : 1 ≤ l.length
    · rw [decide_eq_false (bad_off h hl)]; simp
    · rw [decide_eq_false hl]; simp

theorem legC_mono {p w : Int} {c : UInt8} {b q b' q' : Bool} (hb : b = true → b' = true) (hq : q = true → q' = true) (h : legC p w c b q = true) : legC p w c b' q' = true := by
  by_cases ho : 1 ≤ p ∧ p ≤ 4 ∧ (w = 0 ∨ w = 1)
  · obtain ⟨h1, h2, h3⟩ := ho
    revert h hq hb
    revert b q b' q'
    revert c
    have hp : p = 1 ∨ p = 2 ∨ p = 3 ∨ p = 4 := by omega
    rcases h3 with rfl | rfl <;> rcases hp with rfl | rfl | rfl | rfl <;> exact all_bytes (by decide +kernel)
  · rw [legC_off ho] at h; cases h
theorem mid_left {a b : List UInt8} {k : Nat} (hk : k < a.length) (h : mid a k = true) : mid (a ++ b) k = true := by
  unfold mid at h ⊢
  simp only [Bool.and_eq_true, decide_eq_true_eq] at h ⊢
  refine ⟨⟨h.1.1, by rw [List.length_append]; omega⟩, ?_⟩
  have : (a ++ b).getD (k - 1) 0 = a.getD (k - 1) 0 := by
    rw [List.getD_eq_getElem?_getD, List.getD_eq_getElem?_getD, List.getElem?_append_left (by omega)]
  rw [this]; exact h.2
theorem mid_right {a b : List UInt8} {j : Nat} (h : mid b j = true) : mid (a ++ b) (a.length + j) = true := by
  unfold mid at h ⊢
  simp only [Bool.and_eq_true, decide_eq_true_eq] at h ⊢
  refine ⟨⟨by omega, by rw [List.length_append]; omega⟩, ?_⟩
  have : (a ++ b).getD (a.length + j - 1) 0 = b.getD (j - 1) 0 := by
    rw [List.getD_eq_getElem?_getD, List.getD_eq_getElem?_getD, List.getElem?_append_right (by omega), show a.length + j - 1 - a.length = j - 1 by omega]
  rw [this]; exact h.2
/-- two names side by side have no byte that may not stand there -/
theorem bad_join {p w : Int} {a b : List UInt8} (ha : bad p w a < 0) (hb : bad p w b < 0) : bad p w (a ++ b) < 0 := by
  rw [bad_neg] at *
  intro k hk
  by_cases h : k < a.length
  · have := ha k h
    rw [leg_at h] at this
    rw [leg_at hk, List.getElem_append_left h]
    exact legC_mono id (mid_left h) this
  · have hj : k - a.length < b.length := by rw [List.length_append] at hk; omega
    have := hb (k - a.length) hj
    rw [leg_at hj] at this
    rw [leg_at hk, List.getElem_append_right (by omega)]
    refine legC_mono ?_ ?_ this
    · intro e; rw [decide_eq_true_eq] at e ⊢; omega
    · intro e
      have := mid_right (a := a) e
      rwa [show a.length + (k - a.length) = k by omega] at this
theorem isName_join {p w : Int} {a b : List UInt8} (ha : isName p w a = true) (hb : isName p w b = true) : isName p w (a ++ b) = decide (a.length + b.length ≤ 60) := by
  unfold isName at *
  simp only [Bool.and_eq_true, decide_eq_true_eq] at ha hb
  rw [decide_eq_true (bad_join ha.2 hb.2), List.length_append, decide_eq_true (show 1 ≤ a.length + b.length by omega)]
  simp

end Ch
end Go.Proofs.YtgdhfmcipaoapaaDoor
