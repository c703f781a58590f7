/- Plain mathematics: the texts of decimals, taken apart and put together. No program. -/
import Derived.Test.YtmbpldnclnahmaaDoorDecPlain
set_option linter.unusedVariables false
set_option linter.unusedSimpArgs false
namespace Go.Proofs.YtmbpldnclnahmaaDoor.Dc

def dg (c : UInt8) : Bool := decide (48 ≤ c.toNat) && decide (c.toNat ≤ 57)
def dv (c : UInt8) : Nat := c.toNat - 48
def vals (l : List UInt8) : List Nat := l.map dv
theorem dg_iff (c : UInt8) : dg c = true ↔ 48 ≤ c.toNat ∧ c.toNat ≤ 57 := by unfold dg; simp
def allDg (l : List UInt8) : Prop := ∀ c ∈ l, dg c = true
theorem allDg_app {a b : List UInt8} (ha : allDg a) (hb : allDg b) : allDg (a ++ b) := fun c hc => by
  rcases List.mem_append.1 hc with h | h
  · exact ha c h
  · exact hb c h
theorem vals_le {l : List UInt8} (h : allDg l) : ∀ d ∈ vals l, d ≤ 9 := fun d hd => by
  obtain ⟨c, hc, rfl⟩ := List.mem_map.1 hd
  have := (dg_iff c).1 (h c hc)
  unfold dv; omega
theorem vals_app (a b : List UInt8) : vals (a ++ b) = vals a ++ vals b := List.map_append
theorem vals_len (a : List UInt8) : (vals a).length = a.length := List.length_map _

/-- how many digits a text begins with -/
def dgN (l : List UInt8) : Nat := (l.takeWhile dg).length
theorem dgN_le (l : List UInt8) : dgN l ≤ l.length := by
  unfold dgN
  induction l with
  | nil => simp
  | cons c l ih => rw [List.takeWhile_cons]; split <;> simp; omega
theorem dgN_cons (c : UInt8) (l : List UInt8) : dgN (c :: l) = if dg c = true then dgN l + 1 else 0 := by
  unfold dgN
  rw [List.takeWhile_cons]
  split <;> rfl
theorem dgN_take (l : List UInt8) : l.take (dgN l) = l.takeWhile dg := by
  induction l with
  | nil => rfl
  | cons c l ih =>
    rw [dgN_cons, List.takeWhile_cons]
    split
    · rw [List.take_succ_cons, ih]
    · rfl
theorem dgN_drop (l : List UInt8) : l.drop (dgN l) = l.dropWhile dg := by
  induction l with
  | nil => rfl
  | cons c l ih =>
    rw [dgN_cons, List.dropWhile_cons]
    split
    · rw [List.drop_succ_cons, ih]
    · rfl
theorem takeWhile_dg (l : List UInt8) : allDg (l.takeWhile dg) := by
  induction l with
  | nil => intro c hc; cases hc
  | cons x l ih =>
    intro c hc
    rw [List.takeWhile_cons] at hc
    split at hc
    · rename_i h
      rcases List.mem_cons.1 hc with rfl | hc
      · exact h
      · exact ih c hc
    · cases hc
theorem takeWhile_app {a : List UInt8} (h : allDg a) (b : List UInt8) : (a ++ b).takeWhile dg = a ++ b.takeWhile dg := by
  induction a with
  | nil => rfl
  | cons x a ih => rw [List.cons_append, List.takeWhile_cons, if_pos (h x (by simp)), ih (fun c hc => h c (by simp [hc]))]; rfl
theorem dropWhile_app {a : List UInt8} (h : allDg a) (b : List UInt8) : (a ++ b).dropWhile dg = b.dropWhile dg := by
  induction a with
  | nil => rfl
  | cons x a ih => rw [List.cons_append, List.dropWhile_cons, if_pos (h x (by simp)), ih (fun c hc => h c (by simp [hc]))]
theorem dropWhile_head (l : List UInt8) : ∀ c r, l.dropWhile dg = c :: r → dg c = false := by
  induction l with
  | nil => intro c r e; cases e
  | cons x l ih =>
    intro c r e
    rw [List.dropWhile_cons] at e
    split at e
    · exact ih c r e
    · rename_i h
      cases e
      simpa using h
theorem split_at (l : List UInt8) : l = l.takeWhile dg ++ l.dropWhile dg := (List.takeWhile_append_dropWhile).symm

/-! ### a text taken apart -/
/-- how many bytes of sign -/
def sg (l : List UInt8) : Nat := match l with | 45 :: _ => 1 | _ => 0
theorem sg_cases (l : List UInt8) : (∃ r, l = 45 :: r ∧ sg l = 1) ∨ (sg l = 0 ∧ ∀ r, l ≠ 45 :: r) := by
  by_cases h : ∃ r, l = 45 :: r
  · obtain ⟨r, rfl⟩ := h; exact Or.inl ⟨r, rfl, rfl⟩
  · refine Or.inr ⟨?_, fun r e => h ⟨r, e⟩⟩
    unfold sg
    split
    · rename_i r; exact absurd ⟨r, rfl⟩ h
    · rfl
theorem sg_le (l : List UInt8) : sg l ≤ l.length := by
  rcases sg_cases l with ⟨r, rfl, h⟩ | ⟨h, _⟩ <;> rw [h] <;> simp
/-- where the digits ahead of the point end; where those behind it end -/
def pt (l : List UInt8) : Nat := sg l + dgN (l.drop (sg l))
def en (l : List UInt8) : Nat := pt l + 1 + dgN (l.drop (pt l + 1))
/-- what a text is: none, and how far it may be one; or its sign, its digits ahead of and behind the point -/
inductive Cut where
  | bad (n : Nat)
  | ok (neg : Bool) (d e : List UInt8)
def cut (l : List UInt8) : Cut :=
  if pt l = sg l then .bad (pt l)
  else if pt l = l.length then .ok (decide (sg l = 1)) ((l.drop (sg l)).takeWhile dg) []
  else if l[pt l]? ≠ some 46 then .bad (pt l)
  else if en l = pt l + 1 ∨ en l < l.length then .bad (en l)
  else .ok (decide (sg l = 1)) ((l.drop (sg l)).takeWhile dg) ((l.drop (pt l + 1)).takeWhile dg)
theorem pt_le (l : List UInt8) : pt l ≤ l.length := by
  unfold pt
  have := dgN_le (l.drop (sg l))
  have := sg_le l
  rw [List.length_drop] at *
  omega
theorem en_le (l : List UInt8) (h : pt l < l.length) : en l ≤ l.length := by
  unfold en
  have := dgN_le (l.drop (pt l + 1))
  rw [List.length_drop] at *
  omega
theorem cut_bad_le {l : List UInt8} {n : Nat} (h : cut l = .bad n) : n ≤ l.length := by
  have h1 := pt_le l
  unfold cut at h
  split at h
  · cases h; exact h1
  split at h
  · cases h
  split at h
  · cases h; exact h1
  split at h
  · cases h; exact en_le l (by omega)
  · cases h
theorem cut_ok {l : List UInt8} {neg : Bool} {d e : List UInt8} (h : cut l = .ok neg d e) : allDg d ∧ allDg e ∧ d ≠ [] := by
  have hd := takeWhile_dg (l.drop (sg l))
  have hne : pt l ≠ sg l → (l.drop (sg l)).takeWhile dg ≠ [] := fun hp e => hp (by unfold pt dgN; rw [e]; rfl)
  unfold cut at h
  split at h
  · cases h
  rename_i h0
  split at h
  · cases h; exact ⟨hd, (fun c (hc : c ∈ ([] : List UInt8)) => absurd hc List.not_mem_nil), hne h0⟩
  split at h
  · cases h
  split at h
  · cases h
  · cases h; exact ⟨hd, takeWhile_dg _, hne h0⟩
/-- the sign's bytes -/
def sgn (neg : Bool) : List UInt8 := if neg then [45] else []
def dot (e : List UInt8) : List UInt8 := if e = [] then [] else 46 :: e
theorem sg_sgn (neg : Bool) (d r : List UInt8) (hd : allDg d) (hne : d ≠ []) : sg (sgn neg ++ d ++ r) = (sgn neg).length := by
  cases neg with
  | true => rfl
  | false =>
    cases d with
    | nil => exact absurd rfl hne
    | cons c d =>
      have := (dg_iff c).1 (hd c (by simp))
      show sg (c :: (d ++ r)) = 0
      unfold sg
      split
      · rename_i e; cases e; simp at this
      · rfl
/-- a text put together is taken apart again -/
theorem cut_text (neg : Bool) (d e : List UInt8) (hd : allDg d) (hne : d ≠ []) (he : allDg e) : cut (sgn neg ++ d ++ dot e) = .ok neg d e := by
  have h1 := sg_sgn neg d (dot e) hd hne
  have hs : decide ((sgn neg).length = 1) = neg := by cases neg <;> rfl
  have hdrop : (sgn neg ++ d ++ dot e).drop (sgn neg).length = d ++ dot e := by rw [List.append_assoc, List.drop_left]
  have htw : (dot e).takeWhile dg = [] := by unfold dot; split <;> rfl
  have ht : (d ++ dot e).takeWhile dg = d := by rw [takeWhile_app hd, htw, List.append_nil]
  have hp : pt (sgn neg ++ d ++ dot e) = (sgn neg ++ d).length := by
    unfold pt dgN
    rw [h1, hdrop, ht, List.length_append]
  have hdl : d.length ≠ 0 := by simpa using hne
  unfold cut
  rw [hp, h1, hdrop, ht, hs, if_neg (by rw [List.length_append]; omega)]
  by_cases h : e = []
  · subst h
    rw [if_pos (by simp [dot])]
  · have hde : dot e = 46 :: e := by unfold dot; rw [if_neg h]
    have hen : en (sgn neg ++ d ++ dot e) = (sgn neg ++ d ++ dot e).length := by
      unfold en dgN
      rw [hp, hde]
      have : (sgn neg ++ d ++ 46 :: e).drop ((sgn neg ++ d).length + 1) = e := by
        rw [show sgn neg ++ d ++ 46 :: e = (sgn neg ++ d ++ [46]) ++ e by simp]
        rw [show (sgn neg ++ d).length + 1 = (sgn neg ++ d ++ [46]).length by simp; omega]
        exact List.drop_left
      rw [this]
      have h2 := takeWhile_app he []
      rw [List.append_nil, List.takeWhile_nil, List.append_nil] at h2
      rw [h2]
      simp; omega
    have hat : (sgn neg ++ d ++ dot e)[(sgn neg ++ d).length]? = some 46 := by rw [hde]; simp
    have hel : e.length ≠ 0 := by simpa using h
    have hlen : (sgn neg ++ d ++ dot e).length = (sgn neg ++ d).length + 1 + e.length := by rw [hde]; simp; omega
    rw [if_neg (by omega), if_neg (by rw [hat]; simp), hen, if_neg (by omega), hde]
    have : (sgn neg ++ d ++ 46 :: e).drop ((sgn neg ++ d).length + 1) = e := by
      rw [show sgn neg ++ d ++ 46 :: e = (sgn neg ++ d ++ [46]) ++ e by simp]
      rw [show (sgn neg ++ d).length + 1 = (sgn neg ++ d ++ [46]).length by simp; omega]
      exact List.drop_left
    rw [this]
    have h2 := takeWhile_app he []
    rw [List.append_nil, List.takeWhile_nil, List.append_nil] at h2
    rw [h2]

/-- a text read: the decimal, or why and where there is none -/
def parse (l : List UInt8) : (Int × Int) × Int × Int :=
  match cut l with
  | .bad n => ((0, 0), 11, n)
  | .ok neg d e => match decOf neg (valN (vals (d ++ e))) e.length with
    | none => ((0, 0), 12, 0)
    | some (m, k) => ((m, k), 0, 0)
theorem parse_bad {l : List UInt8} {n : Nat} (h : cut l = .bad n) : parse l = ((0, 0), 11, (n : Int)) := by unfold parse; rw [h]
theorem parse_ok {l : List UInt8} {neg : Bool} {d e : List UInt8} (h : cut l = .ok neg d e) :
    parse l = match decOf neg (valN (vals (d ++ e))) e.length with | none => ((0, 0), 12, 0) | some (m, k) => ((m, (k : Int)), 0, 0) := by unfold parse; rw [h]

/-! ### where a text can't go on -/
theorem take_sg (l : List UInt8) : l.take (sg l) = sgn (decide (sg l = 1)) := by
  rcases sg_cases l with ⟨r, rfl, h⟩ | ⟨h, _⟩
  · rw [h]; rfl
  · rw [h]; rfl
theorem take_pt (l : List UInt8) : l.take (pt l) = sgn (decide (sg l = 1)) ++ (l.drop (sg l)).takeWhile dg := by
  unfold pt
  rw [List.take_add, take_sg, dgN_take]
theorem take_en (l : List UInt8) (h : l[pt l]? = some 46) : l.take (en l) = sgn (decide (sg l = 1)) ++ (l.drop (sg l)).takeWhile dg ++ 46 :: (l.drop (pt l + 1)).takeWhile dg := by
  unfold en
  rw [List.take_add, List.take_add, take_pt, dgN_take]
  have hlt : pt l < l.length := by
    rcases Nat.lt_or_ge (pt l) l.length with h' | h'
    · exact h'
    · rw [List.getElem?_eq_none h'] at h; cases h
  rw [List.drop_eq_getElem_cons hlt, List.take_succ_cons, List.take_zero]
  rw [List.getElem?_eq_getElem hlt] at h
  rw [Option.some.inj h]; simp
theorem cut_of_bad {l : List UInt8} {n : Nat} (h : cut l = .bad n) : (∃ neg d e, cut (l.take n) = .ok neg d e) ∨ (∃ neg d e, cut (l.take n ++ [48]) = .ok neg d e) := by
  have h48 : allDg [48] := by intro c hc; obtain rfl : c = 48 := by simpa using hc
                              rfl
  have hnil : allDg [] := fun c hc => absurd hc List.not_mem_nil
  have hd := takeWhile_dg (l.drop (sg l))
  have hne : pt l ≠ sg l → (l.drop (sg l)).takeWhile dg ≠ [] := fun hp e => hp (by unfold pt dgN; rw [e]; rfl)
  unfold cut at h
  split at h
  · rename_i h0
    cases h
    rw [h0, take_sg]
    have := cut_text (decide (sg l = 1)) [48] [] h48 (by simp) hnil
    simp only [dot, if_pos, List.append_nil] at this
    exact Or.inr ⟨_, _, _, this⟩
  rename_i h0
  split at h
  · cases h
  split at h
  · cases h
    rw [take_pt]
    have := cut_text (decide (sg l = 1)) _ [] hd (hne h0) hnil
    simp only [dot, if_pos, List.append_nil] at this
    exact Or.inl ⟨_, _, _, this⟩
  rename_i h46
  split at h
  · cases h
    have h46 : l[pt l]? = some 46 := by simpa using h46
    rw [take_en l h46]
    have he := takeWhile_dg (l.drop (pt l + 1))
    generalize (l.drop (pt l + 1)).takeWhile dg = e at *
    by_cases hz : e = []
    · subst hz
      have := cut_text (decide (sg l = 1)) _ [48] hd (hne h0) h48
      simp only [dot] at this
      rw [if_neg (by simp)] at this
      exact Or.inr ⟨decide (sg l = 1), (l.drop (sg l)).takeWhile dg, [48], by rw [List.append_assoc]; exact this⟩
    · have := cut_text (decide (sg l = 1)) _ e hd (hne h0) he
      unfold dot at this
      rw [if_neg hz] at this
      exact Or.inl ⟨_, _, _, this⟩
  · cases h
theorem dgN_front (l e : List UInt8) (k : Nat) (hk : k < l.length) (hr : dgN l ≤ k) : dgN (l.take (k + 1) ++ e) = dgN l := by
  induction l generalizing k with
  | nil => simp at hk
  | cons c l ih =>
    rw [List.take_succ_cons, List.cons_append, dgN_cons, dgN_cons]
    rw [dgN_cons] at hr
    split
    · rename_i h
      rw [if_pos h] at hr
      obtain ⟨j, rfl⟩ : ∃ j, k = j + 1 := ⟨k - 1, by omega⟩
      rw [ih j (by simpa using hk) (by omega)]
    · rfl
theorem sg_front (l e : List UInt8) (k : Nat) (hk : k < l.length) : sg (l.take (k + 1) ++ e) = sg l := by
  cases l with
  | nil => simp at hk
  | cons c l =>
    rw [List.take_succ_cons, List.cons_append]
    by_cases h : c = 45
    · subst h; rfl
    · unfold sg
      split
      · rename_i h1; cases h1; exact absurd rfl h
      · split
        · rename_i h1; cases h1; exact absurd rfl h
        · rfl
theorem drop_front (l e : List UInt8) (k m : Nat) (hm : m ≤ k) (hk : k < l.length) : (l.take (k + 1) ++ e).drop m = (l.drop m).take (k - m + 1) ++ e := by
  rw [List.drop_append_of_le_length (by simp; omega), List.drop_take]
  congr 2; omega
theorem pt_front (l e : List UInt8) (k : Nat) (hk : k < l.length) (hp : pt l ≤ k) : pt (l.take (k + 1) ++ e) = pt l := by
  unfold pt at *
  rw [sg_front l e k hk, drop_front l e k _ (by omega) hk, dgN_front _ _ _ (by rw [List.length_drop]; omega) (by omega)]
theorem en_front (l e : List UInt8) (k : Nat) (hk : k < l.length) (hp : pt l ≤ k) (he : en l ≤ k) : en (l.take (k + 1) ++ e) = en l := by
  unfold en at *
  rw [pt_front l e k hk hp, drop_front l e k _ (by omega) hk, dgN_front _ _ _ (by rw [List.length_drop]; omega) (by omega)]
/-- what can't go on can't by another end -/
theorem cut_front {l : List UInt8} {n : Nat} (h : cut l = .bad n) (hn : n < l.length) (e : List UInt8) : cut (l.take (n + 1) ++ e) = .bad n := by
  have hlen : n + 1 ≤ (l.take (n + 1) ++ e).length := by simp; omega
  have h0 := h
  unfold cut at h
  split at h
  · rename_i hp
    cases h
    have e1 := pt_front l e _ hn (Nat.le_refl _)
    unfold cut
    rw [e1, sg_front l e _ hn, if_pos hp]
  rename_i hp
  split at h
  · cases h
  split at h
  · rename_i hq
    cases h
    have e1 := pt_front l e _ hn (Nat.le_refl _)
    unfold cut
    rw [e1, sg_front l e _ hn, if_neg hp, if_neg (by omega)]
    have : (l.take (pt l + 1) ++ e)[pt l]? = l[pt l]? := by
      rw [List.getElem?_append_left (by simp; omega), List.getElem?_take_of_lt (by omega)]
    rw [this, if_pos hq]
  rename_i hq
  split at h
  · rename_i hr
    cases h
    have hpe : pt l < en l := by unfold en; omega
    have e1 := pt_front l e _ hn (by omega)
    have e2 := en_front l e _ hn (by omega) (Nat.le_refl _)
    unfold cut
    rw [e1, e2, sg_front l e _ hn, if_neg hp, if_neg (by omega)]
    have : (l.take (en l + 1) ++ e)[pt l]? = l[pt l]? := by
      rw [List.getElem?_append_left (by simp; omega), List.getElem?_take_of_lt (by omega)]
    rw [this, if_neg hq, if_pos (Or.inr (by omega))]
  · cases h

end Go.Proofs.YtmbpldnclnahmaaDoor.Dc
