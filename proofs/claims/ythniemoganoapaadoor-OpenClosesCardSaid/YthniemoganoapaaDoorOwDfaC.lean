/- The machine says where a text can't go on (layer 17); by its beginning alone; up to there some end of a given list makes it a text. -/
import Derived.Test.YthniemoganoapaaDoorOwDfaB
set_option linter.unusedVariables false
set_option linter.unusedSimpArgs false
set_option maxRecDepth 100000
namespace Go.Proofs.YthniemoganoapaaDoor
namespace Ow
open Utf

theorem lit_self (t : UInt8) (ts l : List UInt8) : lit (t :: ts) (t :: l) = lit ts l := by rw [show lit (t :: ts) (t :: l) = if t = t then lit ts l else .fell (t :: l) from rfl, if_pos rfl]
theorem dr_headN {qa qb qc : Nat} {k : Int} (ha : tab qa = [(.nm1, qb)]) (hb : tab qb = [(.nm, qb), (.is 32, qc)]) (hqa : qa ≠ 24 ∧ qa ≠ 56 ∧ qa ≠ 8 ∧ qa ≠ 9) (hqb : qb ≠ 24 ∧ qb ≠ 56 ∧ qb ≠ 8 ∧ qb ≠ 9)
    (ht : ∀ r, dr (qc, []) r = (text k r).cont nl) (N : Nat) (l : List UInt8) : dr (qa, []) l = (head k N l).cont nl := by
  rw [dr_name ha hb hqa hqb]
  unfold head
  rw [cont_bind]
  cases run 2 [] true l with
  | fell r => rfl
  | ok nm r1 =>
    dsimp only
    show (lit [32] r1).cont _ = _
    rw [cont_bind]
    cases lit [32] r1 with
    | fell r => rfl
    | ok u r2 =>
      dsimp only
      show dr (qc, []) r2 = _
      rw [ht, cont_bind]
      cases text k r2 <;> rfl
theorem dr_h1 (N : Nat) (l : List UInt8) : dr (14, []) l = (head 1 N l).cont nl :=
  dr_headN (qb := 15) (qc := 16) rfl rfl (by decide) (by decide) (fun r => by
    rw [dr_run1 (qa := 16) (qb := 17) (k := 1) (first := false) (ka := .sm) (kb := .sm) (ta := []) (tb := [(.is 10, 0)]) rfl rfl (by decide) (by decide) (fun c => by simp [Cl.has]) (fun c => rfl) (fun c _ => rfl)]
    show _ = (run 1 [] false r).cont nl
    congr 1; funext r'; exact dex_is 10 0 r') N l
theorem dr_h2 (N : Nat) (l : List UInt8) : dr (34, []) l = (head 2 N l).cont nl :=
  dr_headN (qb := 35) (qc := 36) rfl rfl (by decide) (by decide) (fun r => by
    rw [dr_run1 (qa := 36) (qb := 37) (k := 2) (first := false) (ka := .nm) (kb := .nm) (ta := []) (tb := [(.is 10, 0)]) rfl rfl (by decide) (by decide) (fun c => by simp [Cl.has]) (fun c => rfl) (fun c _ => rfl)]
    show _ = (run 2 [] false r).cont nl
    congr 1; funext r'; exact dex_is 10 0 r') N l
theorem dr_h3 (N : Nat) (l : List UInt8) : dr (54, []) l = (head 3 N l).cont nl :=
  dr_headN (k := 3) (qb := 55) (qc := 56) rfl rfl (by decide) (by decide) (fun r => str56 r) N l

/-- what follows a line: none, it was the end -/
def Out.contO {α : Type} (o : Out (Option α)) (f : List UInt8 → Option (List UInt8)) : Option (List UInt8) :=
  match o with
  | .fell r => some r
  | .ok none _ => none
  | .ok (some _) r => f r
theorem contO_bind {α β : Type} (o : Out α) (g : α → List UInt8 → Out (Option β)) (f : List UInt8 → Option (List UInt8)) : (o.bind g).contO f = match o with | .fell r => some r | .ok v r => (g v r).contO f := by cases o <;> rfl
theorem head_contO (k : Int) (N : Nat) (l : List UInt8) (f : List UInt8 → Option (List UInt8)) : (head k N l).contO f = (head k N l).cont f := by
  unfold head
  rw [contO_bind, cont_bind]
  cases run 2 [] true l with
  | fell r => rfl
  | ok nm r1 =>
    dsimp only
    rw [contO_bind, cont_bind]
    cases lit [32] r1 with
    | fell r => rfl
    | ok u r2 =>
      dsimp only
      rw [contO_bind, cont_bind]
      cases text k r2 <;> rfl
theorem dr_eof (r : List UInt8) : dr (8, []) r = if r = [] ∨ r = [10] then none else some (if r.head? = some 10 then r.tail else r) := by
  cases r with
  | nil => rfl
  | cons c r =>
    rw [dr_cons, tr_of (q := 8) (t := [(.is 10, 9)]) rfl (by decide), go_cons, go_nil]
    by_cases e : c = 10
    · subst e
      rw [if_pos (by decide)]
      show dr (9, []) r = _
      cases r with
      | nil => rfl
      | cons d r =>
        rw [dr_cons, tr_of (q := 9) (t := []) rfl (by decide), go_nil]
        rw [if_neg (by rintro (h | h) <;> simp at h)]; rfl
    · rw [if_neg (by simp [Cl.has, e]), if_neg (by rintro (h | h) <;> simp_all)]
      simp [e]
theorem dr_told (N : Nat) (l : List UInt8) : dr (2, []) l = (told N l).contO nl := by
  cases l with
  | nil => rfl
  | cons c l =>
    rw [told_cons, dr_cons, tr_of (q := 2) (t := [(.is 69, 3), (.is 84, 10), (.is 85, 30), (.is 72, 50)]) rfl (by decide), go_cons, go_cons, go_cons, go_cons, go_nil]
    by_cases h1 : c = 69
    · subst h1
      rw [if_pos (by decide), if_pos rfl, contO_bind, lit_self]
      show dr (3, []) l = _
      rw [dr_lit (q := 3) (q1 := 4) (q' := 8) (t := 79) (ts := [70]) rfl (by decide) (dr_is rfl (by decide))]
      cases lit [79, 70] l with
      | fell r => rfl
      | ok u r =>
        show dr (8, []) r = Out.contO (if _ then _ else _) nl
        rw [dr_eof]
        split <;> rfl
    rw [if_neg (by simp [Cl.has, h1]), if_neg h1]
    by_cases h2 : c = 84
    · subst h2
      rw [if_pos (by decide), if_pos rfl, contO_bind, lit_self]
      show dr (10, []) l = _
      rw [dr_lit (q := 10) (q1 := 11) (q' := 14) (t := 89) (ts := [80, 69, 32]) rfl (by decide) (dr_lit (q1 := 12) rfl (by decide) (dr_lit (q1 := 13) rfl (by decide) (dr_is rfl (by decide))))]
      cases lit [89, 80, 69, 32] l with
      | fell r => rfl
      | ok u r => show dr (14, []) r = (head 1 N r).contO nl; rw [dr_h1 N, head_contO]
    rw [if_neg (by simp [Cl.has, h2]), if_neg h2]
    by_cases h3 : c = 85
    · subst h3
      rw [if_pos (by decide), if_pos rfl, contO_bind, lit_self]
      show dr (30, []) l = _
      rw [dr_lit (q := 30) (q1 := 31) (q' := 34) (t := 78) (ts := [73, 84, 32]) rfl (by decide) (dr_lit (q1 := 32) rfl (by decide) (dr_lit (q1 := 33) rfl (by decide) (dr_is rfl (by decide))))]
      cases lit [78, 73, 84, 32] l with
      | fell r => rfl
      | ok u r => show dr (34, []) r = (head 2 N r).contO nl; rw [dr_h2 N, head_contO]
    rw [if_neg (by simp [Cl.has, h3]), if_neg h3]
    by_cases h4 : c = 72
    · subst h4
      rw [if_pos (by decide), if_pos rfl, contO_bind, lit_self]
      show dr (50, []) l = _
      rw [dr_lit (q := 50) (q1 := 51) (q' := 54) (t := 69) (ts := [76, 80, 32]) rfl (by decide) (dr_lit (q1 := 52) rfl (by decide) (dr_lit (q1 := 53) rfl (by decide) (dr_is rfl (by decide))))]
      cases lit [69, 76, 80, 32] l with
      | fell r => rfl
      | ok u r => show dr (54, []) r = (head 3 N r).contO nl; rw [dr_h3 N, head_contO]
    rw [if_neg (by simp [Cl.has, h4]), if_neg h4]; rfl
theorem dr_line (N : Nat) (l : List UInt8) : dr (0, []) l = (line N l).contO nl := by
  unfold line
  by_cases h : l.head? = some 35
  · rw [if_pos h, contO_bind, dr_dex (by decide), show tab 0 = [(.is 35, 1), (.nm1, 20)] from rfl, dex_yes h]
    cases l with
    | nil => cases h
    | cons c l =>
      obtain rfl : c = 35 := by simpa using h
      rw [lit_self]
      show dr (1, []) l = _
      rw [dr_is (q' := 2) (t := 32) rfl (by decide)]
      cases lit [32] l with
      | fell r => rfl
      | ok u r => exact dr_told N r
  · rw [if_neg h, dr_sample N l h]
    cases sample N l <;> rfl
theorem lit1_len {b : UInt8} {l r : List UInt8} {u : Unit} (h : lit [b] l = .ok u r) : l = b :: r := by
  cases l with
  | nil => cases h
  | cons c l =>
    unfold lit at h
    split at h
    · rename_i e
      injection h with _ h
      rw [e, h]
    · cases h
theorem dr_rows (N : Nat) : ∀ (f : Nat) (l : List UInt8), l.length < f → dr (0, []) l = match rowsF f N l with | .fell r => some r | .ok _ _ => none
  | 0, l, h => absurd h (by omega)
  | f + 1, l, h => by
    rw [dr_line N l]
    unfold rowsF
    cases e : line N l with
    | fell r => rfl
    | ok o r =>
      have hr := (ok_suf (suf_line N l) e).length_le
      cases o with
      | none => rfl
      | some x =>
        show nl r = match (lit [10] r).bind fun _ r' => (rowsF f N r').map (x :: ·) with | .fell r => some r | .ok _ _ => none
        unfold nl
        cases e2 : lit [10] r with
        | fell r' => rfl
        | ok u r' =>
          have hr2 := congrArg List.length (lit1_len e2)
          rw [List.length_cons] at hr2
          show dr (0, []) r' = match (rowsF f N r').map (x :: ·) with | .fell r => some r | .ok _ _ => none
          rw [dr_rows N f r' (by omega)]
          cases rowsF f N r' <;> rfl
/-- fuel enough is fuel enough -/
theorem bad_dr (s : List UInt8) : bad s = match dr (0, []) s with | some r => ((s.length - r.length : Nat) : Int) | none => -1 := by
  unfold bad rows
  rw [dr_rows s.length (s.length + 1) s (by omega)]
  cases rowsF (s.length + 1) s.length s <;> rfl

/-- the state behind a beginning -/
def rn : Sta → List UInt8 → Option Sta
  | s, [] => some s
  | s, c :: l => match st s c with | none => none | some s' => rn s' l
theorem rn_dr : ∀ (a b : List UInt8) (s s' : Sta), rn s a = some s' → dr s (a ++ b) = dr s' b
  | [], b, s, s', h => by injection h with h; rw [h]; rfl
  | c :: a, b, s, s', h => by
    unfold rn at h
    rw [List.cons_append, dr]
    cases e : st s c with
    | none => rw [e] at h; cases h
    | some s1 => rw [e] at h; exact rn_dr a b s1 s' h
theorem rn_app : ∀ (a b : List UInt8) (s s' : Sta), rn s (a ++ b) = some s' → ∃ s1, rn s a = some s1
  | [], b, s, s', h => ⟨s, rfl⟩
  | c :: a, b, s, s', h => by
    rw [List.cons_append] at h
    unfold rn at h ⊢
    cases e : st s c with
    | none => rw [e] at h; cases h
    | some s1 => rw [e] at h; exact rn_app a b s1 s' h
theorem dr_some : ∀ (l : List UInt8) (s : Sta) (r : List UInt8), dr s l = some r → ∃ a s', l = a ++ r ∧ rn s a = some s' ∧ (r = [] → fin s' = false) ∧ ∀ c r', r = c :: r' → st s' c = none
  | [], s, r, h => by
    unfold dr at h
    split at h
    · cases h
    · rename_i hf
      injection h with h
      subst h
      exact ⟨[], s, rfl, rfl, fun _ => (by simpa using hf), fun c r' e => by cases e⟩
  | c :: l, s, r, h => by
    unfold dr at h
    cases e : st s c with
    | none =>
      rw [e] at h
      injection h with h
      subst h
      exact ⟨[], s, rfl, rfl, fun e => (by cases e), fun d r' e' => by injection e' with e1 e2; rw [← e1]; exact e⟩
    | some s1 =>
      rw [e] at h
      obtain ⟨a, s', h1, h2, h3, h4⟩ := dr_some l s1 r h
      exact ⟨c :: a, s', by rw [h1]; rfl, by unfold rn; rw [e]; exact h2, h3, h4⟩
theorem dr_none : ∀ (l : List UInt8) (s : Sta), dr s l = none → ∃ s', rn s l = some s' ∧ fin s' = true
  | [], s, h => by
    unfold dr at h
    split at h
    · rename_i hf; exact ⟨s, rfl, hf⟩
    · cases h
  | c :: l, s, h => by
    unfold dr at h
    cases e : st s c with
    | none => rw [e] at h; cases h
    | some s1 =>
      rw [e] at h
      obtain ⟨s', h1, h2⟩ := dr_none l s1 h
      exact ⟨s', by unfold rn; rw [e]; exact h1, h2⟩
theorem rn_end {a : List UInt8} {s : Sta} (h : rn (0, []) a = some s) : bad a = if fin s = true then -1 else (a.length : Int) := by
  rw [bad_dr]
  have := rn_dr a [] (0, []) s h
  rw [List.append_nil] at this
  rw [this]
  unfold dr
  cases fin s <;> simp
theorem rn_dead {a : List UInt8} {s : Sta} {c : UInt8} (h : rn (0, []) a = some s) (hc : st s c = none) (e : List UInt8) : bad (a ++ c :: e) = (a.length : Int) := by
  rw [bad_dr, rn_dr a (c :: e) (0, []) s h]
  unfold dr
  rw [hc]
  simp
/-- where it can't go on: told by the beginning up to there, and that byte; up to there it is all right -/
theorem bad_cases (s : List UInt8) : (bad s = -1 ∧ ∃ x, rn (0, []) s = some x ∧ fin x = true) ∨ (bad s = s.length ∧ ∃ x, rn (0, []) s = some x ∧ fin x = false) ∨
    ∃ (a : List UInt8) (c : UInt8) (r : List UInt8) (x : Sta), s = a ++ c :: r ∧ bad s = a.length ∧ rn (0, []) a = some x ∧ st x c = none := by
  cases h : dr (0, []) s with
  | none =>
    obtain ⟨x, h1, h2⟩ := dr_none s _ h
    exact Or.inl ⟨by rw [bad_dr, h], x, h1, h2⟩
  | some r =>
    obtain ⟨a, x, h1, h2, h3, h4⟩ := dr_some s _ r h
    cases r with
    | nil =>
      rw [List.append_nil] at h1
      subst h1
      exact Or.inr (Or.inl ⟨by rw [bad_dr, h]; simp, x, h2, h3 rfl⟩)
    | cons c r => exact Or.inr (Or.inr ⟨a, c, r, x, h1, by rw [bad_dr, h]; subst h1; simp, h2, h4 c r rfl⟩)
theorem bad_le (s : List UInt8) : -1 ≤ bad s ∧ bad s ≤ s.length := by
  rcases bad_cases s with ⟨h, _⟩ | ⟨h, _⟩ | ⟨a, c, r, x, h1, h2, _⟩
  · omega
  · omega
  · rw [h2, h1]; simp; omega
theorem far_byte {s : List UInt8} {k : Nat} (h : bad s = (k : Int)) (hk : k < s.length) (e : List UInt8) : bad (s.take (k + 1) ++ e) = (k : Int) := by
  rcases bad_cases s with ⟨h1, _⟩ | ⟨h1, _⟩ | ⟨a, c, r, x, h1, h2, h3, h4⟩
  · omega
  · omega
  · obtain rfl : k = a.length := by omega
    subst h1
    rw [List.take_length_add_append, List.append_assoc]
    exact rn_dead h3 h4 e
theorem far_front {s : List UInt8} {k : Nat} (h : bad s = (k : Int)) : bad (s.take k) = (k : Int) ∨ bad (s.take k) = -1 := by
  rcases bad_cases s with ⟨h1, _⟩ | ⟨h1, x, h2, h3⟩ | ⟨a, c, r, x, h1, h2, h3, h4⟩
  · omega
  · obtain rfl : k = s.length := by omega
    rw [List.take_length]; exact Or.inl h
  · obtain rfl : k = a.length := by omega
    subst h1
    rw [List.take_left, rn_end h3]
    split
    · exact Or.inr rfl
    · exact Or.inl rfl
/-- a beginning that can go on -/
theorem viable {s : List UInt8} {k : Nat} (h : bad s < 0 ∧ k ≤ s.length ∨ bad s = (k : Int)) : ∃ x, rn (0, []) (s.take k) = some x := by
  rcases bad_cases s with ⟨h1, x, h2, _⟩ | ⟨h1, x, h2, h3⟩ | ⟨a, c, r, x, h1, h2, h3, h4⟩
  · exact rn_app (s.take k) (s.drop k) _ x (by rw [List.take_append_drop]; exact h2)
  · exact rn_app (s.take k) (s.drop k) _ x (by rw [List.take_append_drop]; exact h2)
  · obtain rfl : k = a.length := by
      rcases h with ⟨h, _⟩ | h <;> omega
    subst h1
    rw [List.take_left]; exact ⟨x, h3⟩

end Ow
end Go.Proofs.YthniemoganoapaaDoor
