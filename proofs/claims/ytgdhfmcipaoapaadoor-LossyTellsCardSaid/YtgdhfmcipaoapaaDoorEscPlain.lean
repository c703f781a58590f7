/- Names that come back, in plain words: what a name becomes (esc), what it was (undo), what it is read as (back). -/
import Derived.Test.YtgdhfmcipaoapaaDoorChPlain
set_option maxRecDepth 100000
set_option linter.unusedVariables false
set_option linter.unusedSimpArgs false
namespace Go.Proofs.YtgdhfmcipaoapaaDoor
namespace Ch

/-- does a byte lie between two others, the one ahead no point: told by the one ahead, and by what is behind -/
def midP (prev : Option UInt8) (r : List UInt8) : Bool := match prev with | none => false | some d => !r.isEmpty && !decide (d.toNat = 46)
theorem leg_split (p w : Int) (a : List UInt8) (c : UInt8) (r : List UInt8) : leg p w (a ++ c :: r) a.length = legC p w c a.getLast?.isSome (midP a.getLast? r) := by
  have hk : a.length < (a ++ c :: r).length := by simp
  rw [leg_at hk]
  have e1 : (a ++ c :: r)[a.length]'hk = c := by simp
  rw [e1]
  congr 1
  · rcases List.eq_nil_or_concat a with rfl | ⟨a, d, rfl⟩
    · rfl
    · simp
  · unfold mid midP
    rcases List.eq_nil_or_concat a with rfl | ⟨a, d, rfl⟩
    · rfl
    · rw [List.concat_eq_append]
      have h1 : ((a ++ [d]) ++ c :: r).getD ((a ++ [d]).length - 1) 0 = d := by
        rw [List.getD_eq_getElem?_getD, List.append_assoc, List.getElem?_append_right (by simp)]
        simp
      rw [h1]
      simp only [List.getLast?_append, List.getLast?_singleton, Option.some_or]
      cases r
      · simp
      · simp; omega

/-- a hexadecimal digit -/
def hexD (n : Nat) : UInt8 := if n < 10 then UInt8.ofNat (48 + n) else UInt8.ofNat (87 + n)
/-- a byte behind _x -/
def code (c : UInt8) : List UInt8 := [95, 120, hexD (c.toNat / 16), hexD (c.toNat % 16)]
/-- is a byte the _ of an _x -/
def isUx (c : UInt8) (r : List UInt8) : Bool := decide (c = 95) && decide (r.head? = some 120)
/-- what is left of a name becomes, behind a byte -/
def escL (p w : Int) : Option UInt8 → List UInt8 → List UInt8
  | _, [] => []
  | prev, c :: r => (if legC p w c prev.isSome (midP prev r) && !isUx c r then [c] else code c) ++ escL p w (some c) r
def esc (p w : Int) (l : List UInt8) : List UInt8 := escL p w none l
/-- a hexadecimal digit's number -/
def unhex (c : UInt8) : Option Nat :=
  if 48 ≤ c.toNat ∧ c.toNat ≤ 57 then some (c.toNat - 48) else if 97 ≤ c.toNat ∧ c.toNat ≤ 102 then some (c.toNat - 87) else none
/-- what a name was -/
def undo : List UInt8 → Option (List UInt8)
  | [] => some []
  | [c] => some [c]
  | [c, d] => if c = 95 ∧ d = 120 then none else (undo [d]).map (c :: ·)
  | [c, d, e] => if c = 95 ∧ d = 120 then none else (undo [d, e]).map (c :: ·)
  | c :: d :: e :: f :: r =>
    if c = 95 ∧ d = 120 then
      match unhex e, unhex f with
      | some x, some y => (undo r).map (UInt8.ofNat (16 * x + y) :: ·)
      | _, _ => none
    else (undo (d :: e :: f :: r)).map (c :: ·)
/-- what a name is read as -/
def back (p w : Int) (s : List UInt8) : List UInt8 := match undo s with | some t => if esc p w t = s then t else s | none => s

theorem unhex_hexD : ∀ n : Fin 16, unhex (hexD n.val) = some n.val := by decide +kernel
theorem code_back (c : UInt8) : unhex (hexD (c.toNat / 16)) = some (c.toNat / 16) ∧ unhex (hexD (c.toNat % 16)) = some (c.toNat % 16) ∧ UInt8.ofNat (16 * (c.toNat / 16) + c.toNat % 16) = c := by
  refine ⟨unhex_hexD ⟨c.toNat / 16, by have := c.toNat_lt; omega⟩, unhex_hexD ⟨c.toNat % 16, by omega⟩, ?_⟩
  rw [show 16 * (c.toNat / 16) + c.toNat % 16 = c.toNat by omega]
  simp
theorem undo_code (c : UInt8) (r : List UInt8) : undo (code c ++ r) = (undo r).map (c :: ·) := by
  obtain ⟨h1, h2, h3⟩ := code_back c
  show undo (95 :: 120 :: hexD (c.toNat / 16) :: hexD (c.toNat % 16) :: r) = _
  conv => lhs; rw [undo]
  rw [if_pos ⟨rfl, rfl⟩, h1, h2]
  simp only [h3]
/-- a byte that is no _ of an _x stays -/
theorem undo_keep (c : UInt8) (r : List UInt8) (h : isUx c r = false) : undo (c :: r) = (undo r).map (c :: ·) := by
  have hn : ∀ d, r.head? = some d → ¬ (c = 95 ∧ d = 120) := by
    intro d hd ⟨h1, h2⟩
    subst h2
    unfold isUx at h
    rw [h1, hd] at h
    simp at h
  match r, hn with
  | [], _ => rfl
  | [d], hn => conv => lhs; rw [undo, if_neg (hn d rfl)]
  | [d, e], hn => conv => lhs; rw [undo, if_neg (hn d rfl)]
  | d :: e :: f :: r, hn => conv => lhs; rw [undo, if_neg (hn d rfl)]
theorem escL_head (p w : Int) (prev : Option UInt8) (l : List UInt8) : (escL p w prev l).head? = none ∧ l = [] ∨ (∃ c r, l = c :: r ∧ ((escL p w prev l).head? = some c ∨ (escL p w prev l).head? = some 95)) := by
  cases l with
  | nil => exact Or.inl ⟨rfl, rfl⟩
  | cons c r =>
    refine Or.inr ⟨c, r, rfl, ?_⟩
    unfold escL
    split
    · exact Or.inl rfl
    · exact Or.inr rfl
/-- ████ what a name became is undone -/
theorem undo_escL (p w : Int) : ∀ (l : List UInt8) (prev : Option UInt8), undo (escL p w prev l) = some l
  | [], _ => rfl
  | c :: r, prev => by
    have ih := undo_escL p w r (some c)
    unfold escL
    split
    · rename_i hk
      rw [Bool.and_eq_true] at hk
      have hx : isUx c r = false := by simpa using hk.2
      have : isUx c (escL p w (some c) r) = false := by
        rcases escL_head p w (some c) r with ⟨h, _⟩ | ⟨d, r', rfl, h | h⟩
        · unfold isUx; rw [h]; simp
        · unfold isUx at hx ⊢; rw [h]; exact hx
        · unfold isUx; rw [h]; simp
      rw [List.singleton_append, undo_keep c _ this, ih]; rfl
    · rw [undo_code, ih]; rfl
theorem undo_esc (p w : Int) (l : List UInt8) : undo (esc p w l) = some l := undo_escL p w l none
theorem back_esc (p w : Int) (l : List UInt8) : back p w (esc p w l) = l := by
  unfold back
  rw [undo_esc]
  simp
theorem esc_inj {p w : Int} {a b : List UInt8} (h : esc p w a = esc p w b) : a = b := by
  have := undo_esc p w a
  rw [h, undo_esc] at this
  exact (Option.some.inj this).symm

/-- how many bytes don't stay -/
def escN (p w : Int) : Option UInt8 → List UInt8 → Nat
  | _, [] => 0
  | prev, c :: r => (if legC p w c prev.isSome (midP prev r) && !isUx c r then 0 else 1) + escN p w (some c) r
theorem escL_len (p w : Int) : ∀ (l : List UInt8) (prev : Option UInt8), (escL p w prev l).length = l.length + 3 * escN p w prev l
  | [], _ => rfl
  | c :: r, prev => by
    unfold escL escN
    rw [List.length_append, escL_len p w r (some c)]
    split
    · simp; omega
    · simp [code]; omega
theorem escL_stay (p w : Int) : ∀ (l : List UInt8) (prev : Option UInt8), escN p w prev l = 0 → escL p w prev l = l
  | [], _, _ => rfl
  | c :: r, prev, h => by
    unfold escN at h
    unfold escL
    split
    · rename_i hk
      rw [if_pos hk] at h
      rw [escL_stay p w r (some c) (by omega)]; rfl
    · rename_i hk
      rw [if_neg hk] at h
      omega
theorem esc_self (p w : Int) (l : List UInt8) : esc p w l = l ↔ escN p w none l = 0 := by
  constructor
  · intro h
    have := escL_len p w l none
    have h2 : (escL p w none l).length = l.length := by rw [show escL p w none l = l from h]
    omega
  · exact escL_stay p w l none

/-- may each byte stand where it does, behind a byte -/
def legP (p w : Int) : Option UInt8 → List UInt8 → Bool
  | _, [] => true
  | prev, c :: r => legC p w c prev.isSome (midP prev r) && legP p w (some c) r
theorem legP_iff (p w : Int) : ∀ (r a : List UInt8), legP p w a.getLast? r = true ↔ ∀ j, a.length ≤ j → j < (a ++ r).length → leg p w (a ++ r) j = true
  | [], a => by
    simp only [legP, List.append_nil]
    exact ⟨fun _ j h1 h2 => absurd h2 (by omega), fun _ => trivial⟩
  | c :: r, a => by
    have ih := legP_iff p w r (a ++ [c])
    rw [List.getLast?_append, List.getLast?_singleton, Option.some_or, List.append_assoc, List.singleton_append] at ih
    unfold legP
    rw [Bool.and_eq_true, ih, ← leg_split]
    constructor
    · rintro ⟨h1, h2⟩ j hj hl
      by_cases e : j = a.length
      · rw [e]; exact h1
      · exact h2 j (by simp; omega) hl
    · intro h
      exact ⟨h a.length (Nat.le_refl _) (by simp), fun j h1 h2 => h j (by simp at h1; omega) h2⟩
theorem bad_legP (p w : Int) (l : List UInt8) : bad p w l < 0 ↔ legP p w none l = true := by
  rw [bad_neg, show (none : Option UInt8) = ([] : List UInt8).getLast? from rfl, legP_iff]
  exact ⟨fun h j _ hl => h j hl, fun h j hl => h j (Nat.zero_le _) hl⟩
/-- the signs of an escape may stand wherever they do -/
theorem signs {p w : Int} (h : 1 ≤ p ∧ p ≤ 4 ∧ (w = 0 ∨ w = 1)) : (∀ b q, legC p w 95 b q = true) ∧ (∀ b q, legC p w 120 b q = true) ∧ ∀ n : Fin 16, ∀ q, legC p w (hexD n.val) true q = true := by
  obtain ⟨h1, h2, h3⟩ := h
  have hp : p = 1 ∨ p = 2 ∨ p = 3 ∨ p = 4 := by omega
  rcases h3 with rfl | rfl <;> rcases hp with rfl | rfl | rfl | rfl <;> exact ⟨by decide +kernel, by decide +kernel, by decide +kernel⟩
theorem hexD_dot : ∀ n : Fin 16, ¬ (hexD n.val).toNat = 46 := by decide +kernel
/-- ████ what a name becomes is legal -/
theorem escL_legal {p w : Int} (h : 1 ≤ p ∧ p ≤ 4 ∧ (w = 0 ∨ w = 1)) : ∀ (l : List UInt8) (pl pr : Option UInt8), (pl.isSome = true → pr.isSome = true) → (∀ d, pl = some d → ¬ d.toNat = 46 → ∀ e, pr = some e → ¬ e.toNat = 46) →
    legP p w pr (escL p w pl l) = true
  | [], _, _, _, _ => rfl
  | c :: r, pl, pr, h1, h2 => by
    obtain ⟨s1, s2, s3⟩ := signs h
    unfold escL
    split
    · rename_i hk
      rw [Bool.and_eq_true] at hk
      rw [List.singleton_append]
      unfold legP
      rw [Bool.and_eq_true]
      refine ⟨legC_mono h1 ?_ hk.1, escL_legal h r (some c) (some c) (fun _ => rfl) fun d hd hn e he => by cases hd; cases he; exact hn⟩
      intro hm
      cases pl with
      | none => cases hm
      | some d =>
        unfold midP at hm
        simp only [Bool.and_eq_true] at hm
        obtain ⟨e, rfl⟩ : ∃ e, pr = some e := Option.isSome_iff_exists.1 (h1 rfl)
        have hd : ¬ d.toNat = 46 := by simpa using hm.2
        have he := h2 d rfl hd e rfl
        unfold midP
        simp only [Bool.and_eq_true]
        refine ⟨?_, by simpa using he⟩
        cases r with
        | nil => simp at hm
        | cons c2 r2 =>
          unfold escL
          split <;> simp [code]
    · show legP p w pr (95 :: 120 :: hexD (c.toNat / 16) :: hexD (c.toNat % 16) :: escL p w (some c) r) = true
      have hc := c.toNat_lt
      unfold legP legP legP legP
      rw [s1, s2]
      simp only [Option.isSome_some, Bool.true_and]
      rw [s3 ⟨c.toNat / 16, by omega⟩, s3 ⟨c.toNat % 16, by omega⟩, Bool.true_and, Bool.true_and]
      exact escL_legal h r (some c) _ (fun _ => rfl) fun d hd hn e he => by cases he; exact hexD_dot ⟨c.toNat % 16, by omega⟩
theorem esc_legal {p w : Int} (h : 1 ≤ p ∧ p ≤ 4 ∧ (w = 0 ∨ w = 1)) (l : List UInt8) : bad p w (esc p w l) < 0 := by
  rw [bad_legP]
  exact escL_legal h l none none (fun e => e) fun d hd => by cases hd
theorem bad_is {p w : Int} {l : List UInt8} (h : bad p w l < 0) : bad p w l = -1 := by have := (bad_ge p w l).1; omega

/-- what a name is read as is what it was, and becomes it again; or it is the name -/
theorem back_far (p w : Int) (s : List UInt8) : back p w s = s ∨ (undo s = some (back p w s) ∧ esc p w (back p w s) = s) := by
  cases h : undo s with
  | none => exact Or.inl (by unfold back; rw [h])
  | some t =>
    by_cases e : esc p w t = s
    · have hb : back p w s = t := by unfold back; rw [h]; exact if_pos e
      rw [hb]; exact Or.inr ⟨rfl, e⟩
    · exact Or.inl (by unfold back; rw [h]; exact if_neg e)

end Ch
end Go.Proofs.YtgdhfmcipaoapaaDoor
