/- The machine and the words piece by piece say the same: numbers, labels, lines, all rows (layer 17). -/
import Derived.Test.YthniemoganoapaaDoorOwDfa
set_option linter.unusedVariables false
set_option linter.unusedSimpArgs false
namespace Go.Proofs.YthniemoganoapaaDoor
namespace Ow
open Utf

theorem go_nil (c : UInt8) : go [] c = none := rfl
theorem go_cons (k : Cl) (q : Nat) (t : List (Cl × Nat)) (c : UInt8) : go ((k, q) :: t) c = if k.has c = true then some q else go t c := by
  unfold go
  rw [List.find?_cons]
  cases h : k.has c <;> simp
theorem tr_of {q : Nat} {t : List (Cl × Nat)} (h : tab q = t) (hq : q ≠ 24 ∧ q ≠ 56) (c : UInt8) : tr q c = (go t c).map fun q' => (q', []) := by rw [tr_go hq, h]
/-- one byte by these ways, or none -/
def dex (t : List (Cl × Nat)) (l : List UInt8) : Option (List UInt8) :=
  match l with
  | [] => some []
  | c :: r => match go t c with | some q => dr (q, []) r | none => some (c :: r)
theorem dex_cons (t : List (Cl × Nat)) (c : UInt8) (r : List UInt8) : dex t (c :: r) = match go t c with | some q => dr (q, []) r | none => some (c :: r) := rfl
theorem dr_dex {q : Nat} (hq : q ≠ 24 ∧ q ≠ 56 ∧ q ≠ 8 ∧ q ≠ 9) (l : List UInt8) : dr (q, []) l = dex (tab q) l := by
  cases l with
  | nil => exact dr_nil ⟨hq.2.2.1, hq.2.2.2⟩
  | cons c r =>
    rw [dr_cons, tr_go ⟨hq.1, hq.2.1⟩, dex_cons]
    cases go (tab q) c <;> rfl
theorem dex_skip {k : Cl} {q : Nat} {t : List (Cl × Nat)} {l : List UInt8} (h : ∀ c, l.head? = some c → k.has c = false) : dex ((k, q) :: t) l = dex t l := by
  cases l with
  | nil => rfl
  | cons c r => rw [dex_cons, go_cons, if_neg (by rw [h c rfl]; decide)]; rfl
theorem dex_is (b : UInt8) (q : Nat) (l : List UInt8) : dex [(.is b, q)] l = (lit [b] l).cont (dr (q, [])) := by
  cases l with
  | nil => rfl
  | cons c r =>
    rw [dex_cons, go_cons, go_nil]
    unfold lit
    by_cases e : c = b
    · simp [Cl.has, e, lit, Out.cont]
    · simp [Cl.has, e, Out.cont]
theorem dex_yes {b : UInt8} {q : Nat} {t : List (Cl × Nat)} {l : List UInt8} (h : l.head? = some b) : dex ((.is b, q) :: t) l = dr (q, []) l.tail := by
  cases l with
  | nil => cases h
  | cons c r =>
    obtain rfl : c = b := by simpa using h
    rw [dex_cons, go_cons, if_pos (by simp [Cl.has])]; rfl
theorem is_no {b : UInt8} {l : List UInt8} (h : ¬ l.head? = some b) : ∀ c, l.head? = some c → (Cl.is b).has c = false := by
  intro c hc
  rw [hc] at h
  simpa [Cl.has] using h

/-- a run of a class: the first byte's way, then round and round, then the ways out -/
theorem dex_run {k : Int} {first : Bool} {qb : Nat} {ka kb : Cl} {ta tb : List (Cl × Nat)} {l : List UInt8} (hb : tab qb = (kb, qb) :: tb) (hqb : qb ≠ 24 ∧ qb ≠ 56 ∧ qb ≠ 8 ∧ qb ≠ 9)
    (hka : ∀ c, ka.has c = (inC k c && !(first && digit c))) (hkb : ∀ c, kb.has c = inC k c) (hta : ∀ c, l.head? = some c → go ta c = none) : dex ((ka, qb) :: ta) l = (run k [] first l).cont (dex tb) := by
  have hl : ∀ c, inC k c = true → tr qb c = some (qb, []) := fun c hc => by rw [tr_of hb ⟨hqb.1, hqb.2.1⟩, go_cons, hkb, if_pos hc]; rfl
  cases h : run k [] first l with
  | fell r =>
    obtain ⟨rfl, h1⟩ := run_fell h
    cases r with
    | nil => rfl
    | cons c r => rw [dex_cons, go_cons, hka, if_neg (by rw [h1 c rfl]; decide), hta c rfl]; rfl
  | ok v r =>
    have hf := fun (c : UInt8) (hc : l.head? = some c) => run_first h hc
    obtain ⟨rfl, hv, hall, hx⟩ := run_ok h
    cases v with
    | nil => exact absurd rfl hv
    | cons c v =>
      rw [List.cons_append, dex_cons, go_cons, hka, if_pos (hf c rfl)]
      show dr (qb, []) (v ++ r) = dex tb r
      rw [dr_loop hl v r (fun d hd => hall d (List.mem_cons_of_mem _ hd)), dr_dex hqb, hb]
      exact dex_skip (fun c hc => by rw [hkb]; exact hx c hc)
theorem dr_run1 {k : Int} {first : Bool} {qa qb : Nat} {ka kb : Cl} {ta tb : List (Cl × Nat)} {l : List UInt8} (ha : tab qa = (ka, qb) :: ta) (hb : tab qb = (kb, qb) :: tb) (hqa : qa ≠ 24 ∧ qa ≠ 56 ∧ qa ≠ 8 ∧ qa ≠ 9) (hqb : qb ≠ 24 ∧ qb ≠ 56 ∧ qb ≠ 8 ∧ qb ≠ 9)
    (hka : ∀ c, ka.has c = (inC k c && !(first && digit c))) (hkb : ∀ c, kb.has c = inC k c) (hta : ∀ c, l.head? = some c → go ta c = none) : dr (qa, []) l = (run k [] first l).cont (dex tb) := by
  rw [dr_dex hqa, ha]; exact dex_run hb hqb hka hkb hta
theorem dr_name {qa qb qc : Nat} {l : List UInt8} (ha : tab qa = [(.nm1, qb)]) (hb : tab qb = [(.nm, qb), (.is 32, qc)]) (hqa : qa ≠ 24 ∧ qa ≠ 56 ∧ qa ≠ 8 ∧ qa ≠ 9) (hqb : qb ≠ 24 ∧ qb ≠ 56 ∧ qb ≠ 8 ∧ qb ≠ 9) :
    dr (qa, []) l = (run 2 [] true l).cont (fun r => (lit [32] r).cont (dr (qc, []))) := by
  rw [dr_run1 (k := 2) (first := true) ha hb hqa hqb (fun c => by simp [Cl.has]) (fun c => rfl) (fun c _ => rfl)]
  congr 1
  funext r
  exact dex_is 32 qc r

theorem dr_num {qs qm qd qp qf : Nat} {t : List (Cl × Nat)} (hs : tab qs = [(.is 45, qm), (.dg, qd)]) (hm : tab qm = [(.dg, qd)]) (hd : tab qd = (.dg, qd) :: (.is 46, qp) :: t) (hp : tab qp = [(.dg, qf)]) (hf : tab qf = (.dg, qf) :: t)
    (h1 : qs ≠ 24 ∧ qs ≠ 56 ∧ qs ≠ 8 ∧ qs ≠ 9) (h2 : qm ≠ 24 ∧ qm ≠ 56 ∧ qm ≠ 8 ∧ qm ≠ 9) (h3 : qd ≠ 24 ∧ qd ≠ 56 ∧ qd ≠ 8 ∧ qd ≠ 9) (h4 : qp ≠ 24 ∧ qp ≠ 56 ∧ qp ≠ 8 ∧ qp ≠ 9) (h5 : qf ≠ 24 ∧ qf ≠ 56 ∧ qf ≠ 8 ∧ qf ≠ 9) (l : List UInt8) :
    dr (qs, []) l = (num false l).cont (dex t) := by
  have hi : ∀ c, Cl.dg.has c = inC 0 c := fun c => rfl
  have e1 : dr (qs, []) l = dr (qm, []) (if l.head? = some 45 then l.tail else l) := by
    rw [dr_dex h1, hs, dr_dex h2, hm]
    by_cases e : l.head? = some 45
    · rw [if_pos e, dex_yes e, dr_dex h2, hm]
    · rw [if_neg e, dex_skip (is_no e)]
  rw [e1]
  unfold num
  rw [cont_bind, dr_run1 (k := 0) (first := false) (ta := []) hm hd h2 h3 (fun c => by simp [hi]) hi (fun c _ => rfl)]
  cases run 0 [] false (if l.head? = some 45 then l.tail else l) with
  | fell r => rfl
  | ok v r =>
    show dex ((.is 46, qp) :: t) r = _
    by_cases e : r.head? = some 46
    · rw [dex_yes e]
      simp only [e, and_self, if_true]
      rw [cont_bind, dr_run1 (k := 0) (first := false) (ta := []) hp hf h4 h5 (fun c => by simp [hi]) hi (fun c _ => rfl)]
      cases run 0 [] false r.tail <;> rfl
    · rw [dex_skip (is_no e)]
      simp only [e, and_false, if_false]; rfl

theorem str_ok {e : UInt8} {bad marks : List UInt8} {n : UInt8} (he : (92 : UInt8) ≠ e) : ∀ (m : Nat) (l : List UInt8), l.length ≤ m → ∀ v r, str e bad marks n l = .ok v r → r.head? = some e := by
  intro m
  induction m with
  | zero =>
    intro l hl v r h
    obtain rfl : l = [] := List.eq_nil_of_length_eq_zero (by omega)
    rw [str_nil] at h; cases h
  | succ m ih =>
    intro l hl v r h
    cases l with
    | nil => rw [str_nil] at h; cases h
    | cons c l =>
      by_cases h1 : c = e
      · subst h1; rw [str_end] at h; injection h with _ h; subst h; rfl
      by_cases h2 : c = 92
      · subst h2
        cases l with
        | nil => rw [str_esc0 he] at h; cases h
        | cons d l =>
          rw [str_esc he] at h
          split at h
          · cases h3 : str e bad marks n l with
            | fell r' => rw [h3] at h; cases h
            | ok v' r' =>
              rw [h3] at h
              injection h with _ h; subst h
              exact ih l (by simp at hl; omega) _ _ h3
          · cases h
      cases h3 : bad.contains c with
      | true => rw [str_bad h1 h2 h3] at h; cases h
      | false =>
        by_cases h4 : (front (c :: l)).2 = true
        · rw [str_yes h1 h2 h3 h4] at h
          have := drop_lt (l := c :: l) (by simp) h4
          cases h5 : str e bad marks n ((c :: l).drop (front (c :: l)).1) with
          | fell r' => rw [h5] at h; cases h
          | ok v' r' =>
            rw [h5] at h
            injection h with _ h; subst h
            exact ih _ (by omega) _ _ h5
        · rw [str_no h1 h2 h3 h4] at h; cases h
theorem str24 (l : List UInt8) : dr (24, []) l = (str 34 [10] [92, 34, 110] 110 l).cont (fun r => (lit [34] r).cont (dr (25, []))) := by
  rw [dr_str (q := 24) (qe := 26) (e := 34) (bad := [10]) (marks := [92, 34, 110]) (by decide) (by decide) (by decide) (by decide) (fun d => ?_) (fun c hb h1 h2 => ?_) (fun c hb h1 h2 => ?_) l.length l (Nat.le_refl _)]
  · cases h : str 34 [10] [92, 34, 110] 110 l with
    | fell r => rfl
    | ok v r =>
      have h1 := str_ok (by decide) _ _ (Nat.le_refl _) _ _ h
      cases r with
      | nil => cases h1
      | cons c r =>
        obtain rfl : c = 34 := by simpa using h1
        rfl
  · rw [tr_of (q := 26) (t := [(.is 92, 24), (.is 34, 24), (.is 110, 24)]) rfl (by decide)]
    simp only [go_cons, go_nil, Cl.has, List.contains_cons, List.contains_nil]
    by_cases a : d = 92
    · simp [a]
    · by_cases b : d = 34
      · simp [b]
      · by_cases c : d = 110
        · simp [c]
        · simp [a, b, c]
  · obtain rfl : c = 10 := by simpa using hb
    rfl
  · have h3 : c ≠ 10 := by intro e; subst e; simp at hb
    unfold tr
    rw [show (tab 24).find? (fun x => x.1.has c) = none from by simp [tab, Cl.has, h1, h2]]
    simp [h3]
theorem str56 (l : List UInt8) : dr (56, []) l = (str 10 [] [92, 110] 110 l).cont (fun r => (lit [10] r).cont (dr (0, []))) := by
  rw [dr_str (q := 56) (qe := 57) (e := 10) (bad := []) (marks := [92, 110]) (by decide) (by decide) (by decide) (by decide) (fun d => ?_) (fun c hb h1 h2 => ?_) (fun c hb h1 h2 => ?_) l.length l (Nat.le_refl _)]
  · cases h : str 10 [] [92, 110] 110 l with
    | fell r => rfl
    | ok v r =>
      have h1 := str_ok (by decide) _ _ (Nat.le_refl _) _ _ h
      cases r with
      | nil => cases h1
      | cons c r =>
        obtain rfl : c = 10 := by simpa using h1
        rfl
  · rw [tr_of (q := 57) (t := [(.is 92, 56), (.is 110, 56)]) rfl (by decide)]
    simp only [go_cons, go_nil, Cl.has, List.contains_cons, List.contains_nil]
    by_cases a : d = 92
    · simp [a]
    · by_cases c : d = 110
      · simp [c]
      · simp [a, c]
  · cases hb
  · unfold tr
    rw [show (tab 56).find? (fun x => x.1.has c) = none from by simp [tab, Cl.has, h1, h2]]
    simp

/-- one label, from the list's begin or behind a comma -/
theorem dr_tag1 {q : Nat} {ta : List (Cl × Nat)} (N : Nat) (l : List UInt8) (h : q = 27 ∨ (q = 21 ∧ ¬ l.head? = some 125)) : dr (q, []) l = (tag1 N l).cont (dr (25, [])) := by
  have e1 : dr (q, []) l = dr (27, []) l := by
    rcases h with rfl | ⟨rfl, h⟩
    · rfl
    · rw [dr_dex (by decide), dr_dex (by decide)]
      exact dex_skip (is_no h)
  rw [e1]
  unfold tag1
  rw [cont_bind, dr_run1 (qa := 27) (qb := 22) (k := 3) (first := true) (ta := []) rfl rfl (by decide) (by decide) (fun c => by simp [Cl.has]) (fun c => rfl) (fun c _ => rfl)]
  cases run 3 [] true l with
  | fell r => rfl
  | ok nm r1 =>
    show dex [(.is 61, 23)] r1 = _
    rw [dex_is]
    show _ = ((lit [61, 34] r1).bind _).cont _
    rw [cont_bind, lit_cons 61 [34] r1]
    cases lit [61] r1 with
    | fell r => rfl
    | ok u r =>
      show dr (23, []) r = _
      rw [dr_is (q' := 24) (t := 34) rfl (by decide), show ((Out.ok u r).bind fun x r => lit [34] r) = lit [34] r from rfl]
      cases lit [34] r with
      | fell r => rfl
      | ok u r2 =>
        dsimp only
        show dr (24, []) r2 = _
        rw [str24, cont_bind]
        cases str 34 [10] [92, 34, 110] 110 r2 with
        | fell r => rfl
        | ok v r3 =>
          dsimp only
          show (lit [34] r3).cont _ = _
          rw [cont_bind]
          cases lit [34] r3 <;> rfl

theorem suf_bind {α β : Type} {o : Out α} {f : α → List UInt8 → Out β} {l : List UInt8} (h1 : o.rest <:+ l) (h2 : ∀ v r, o = .ok v r → (f v r).rest <:+ r) : (o.bind f).rest <:+ l := by
  cases o with
  | fell r => exact h1
  | ok v r => exact (h2 v r rfl).trans h1
theorem suf_map {α β : Type} {o : Out α} {f : α → β} {l : List UInt8} (h1 : o.rest <:+ l) : (o.map f).rest <:+ l := by cases o <;> exact h1
theorem suf_lit : ∀ (t l : List UInt8), (lit t l).rest <:+ l
  | [], l => List.suffix_refl _
  | _ :: _, [] => List.suffix_refl _
  | t :: ts, c :: l => by
    unfold lit
    split
    · exact (suf_lit ts l).trans (List.suffix_cons _ _)
    · exact List.suffix_refl _
theorem suf_run (k : Int) (but : List UInt8) (first : Bool) (l : List UInt8) : (run k but first l).rest <:+ l := by
  unfold run
  split
  · exact List.suffix_refl _
  · exact List.dropWhile_suffix _
theorem suf_num (whole : Bool) (l : List UInt8) : (num whole l).rest <:+ l := by
  unfold num
  refine suf_bind ((suf_run ..).trans ?_) (fun v r h => ?_)
  · split
    · exact List.tail_suffix _
    · exact List.suffix_refl _
  · split
    · exact suf_bind ((suf_run ..).trans (List.tail_suffix _)) (fun v r h => List.suffix_refl _)
    · exact List.suffix_refl _
theorem suf_str {e : UInt8} {bad marks : List UInt8} {n : UInt8} (he : (92 : UInt8) ≠ e) : ∀ (m : Nat) (l : List UInt8), l.length ≤ m → (str e bad marks n l).rest <:+ l := by
  intro m
  induction m with
  | zero =>
    intro l hl
    obtain rfl : l = [] := List.eq_nil_of_length_eq_zero (by omega)
    rw [str_nil]; exact List.suffix_refl _
  | succ m ih =>
    intro l hl
    cases l with
    | nil => rw [str_nil]; exact List.suffix_refl _
    | cons c l =>
      by_cases h1 : c = e
      · subst h1; rw [str_end]; exact List.suffix_refl _
      by_cases h2 : c = 92
      · subst h2
        cases l with
        | nil => rw [str_esc0 he]; exact List.suffix_cons _ _
        | cons d l =>
          rw [str_esc he]
          split
          · exact (suf_map (ih l (by simp at hl; omega))).trans ((List.suffix_cons _ _).trans (List.suffix_cons _ _))
          · exact List.suffix_cons _ _
      cases h3 : bad.contains c with
      | true => rw [str_bad h1 h2 h3]; exact List.suffix_refl _
      | false =>
        by_cases h4 : (front (c :: l)).2 = true
        · rw [str_yes h1 h2 h3 h4]
          have := drop_lt (l := c :: l) (by simp) h4
          exact suf_map ((ih _ (by omega)).trans (List.drop_suffix _ _))
        · rw [str_no h1 h2 h3 h4]; exact List.drop_suffix _ _
theorem suf_tag1 (N : Nat) (l : List UInt8) : (tag1 N l).rest <:+ l := by
  unfold tag1
  refine suf_bind (suf_run ..) (fun _ r1 _ => suf_bind (suf_lit ..) (fun _ r2 _ => suf_bind (suf_str (by decide) _ _ (Nat.le_refl _)) (fun _ r3 _ => suf_bind (suf_lit ..) (fun _ r4 _ => List.suffix_refl _))))
theorem suf_tagsF (N : Nat) : ∀ (f : Nat) (l : List UInt8), (tagsF f N l).rest <:+ l
  | 0, l => List.suffix_refl _
  | f + 1, l => by
    unfold tagsF
    refine suf_bind (suf_tag1 ..) (fun t r _ => ?_)
    split
    · exact (suf_map (suf_tagsF N f r.tail)).trans (List.tail_suffix _)
    · exact suf_bind (suf_lit ..) (fun _ _ _ => List.suffix_refl _)
theorem suf_sample (N : Nat) (l : List UInt8) : (sample N l).rest <:+ l := by
  unfold sample
  refine suf_bind (suf_run ..) (fun _ r1 _ => suf_bind ?_ (fun _ r2 _ => suf_bind (suf_lit ..) (fun _ r3 _ => suf_bind (suf_num ..) (fun _ r4 _ => ?_))))
  · split
    · split
      · exact (List.tail_suffix _).trans (List.tail_suffix _)
      · exact (suf_tagsF ..).trans (List.tail_suffix _)
    · exact List.suffix_refl _
  · split
    · exact suf_bind ((suf_num ..).trans (List.tail_suffix _)) (fun _ _ _ => List.suffix_refl _)
    · exact List.suffix_refl _
theorem suf_text (k : Int) (l : List UInt8) : (text k l).rest <:+ l := by
  unfold text
  split
  · exact suf_run ..
  · split
    · exact suf_run ..
    · exact suf_str (by decide) _ _ (Nat.le_refl _)
theorem suf_head (k : Int) (N : Nat) (l : List UInt8) : (head k N l).rest <:+ l := by
  unfold head
  exact suf_bind (suf_run ..) (fun _ r1 _ => suf_bind (suf_lit ..) (fun _ r2 _ => suf_bind (suf_text ..) (fun _ r3 _ => List.suffix_refl _)))
theorem told_cons (N : Nat) (c : UInt8) (l : List UInt8) : told N (c :: l) =
    if c = 69 then (lit [69, 79, 70] (c :: l)).bind fun _ r => if r = [] ∨ r = [10] then .ok none [] else .fell (if r.head? = some 10 then r.tail else r)
    else if c = 84 then (lit [84, 89, 80, 69, 32] (c :: l)).bind fun _ r => head 1 N r
    else if c = 85 then (lit [85, 78, 73, 84, 32] (c :: l)).bind fun _ r => head 2 N r
    else if c = 72 then (lit [72, 69, 76, 80, 32] (c :: l)).bind fun _ r => head 3 N r
    else .fell (c :: l) := rfl
theorem suf_told (N : Nat) (l : List UInt8) : (told N l).rest <:+ l := by
  cases l with
  | nil => exact List.suffix_refl _
  | cons c l =>
    rw [told_cons]
    split
    · refine suf_bind (suf_lit ..) (fun _ r _ => ?_)
      split
      · exact List.nil_suffix
      · show (if _ then _ else _) <:+ _
        split
        · exact List.tail_suffix _
        · exact List.suffix_refl _
    split
    · exact suf_bind (suf_lit ..) (fun _ r _ => suf_head ..)
    split
    · exact suf_bind (suf_lit ..) (fun _ r _ => suf_head ..)
    split
    · exact suf_bind (suf_lit ..) (fun _ r _ => suf_head ..)
    · exact List.suffix_refl _
theorem suf_line (N : Nat) (l : List UInt8) : (line N l).rest <:+ l := by
  unfold line
  split
  · exact suf_bind (suf_lit ..) (fun _ r _ => suf_told ..)
  · exact suf_map (suf_sample ..)
theorem suf_rowsF (N : Nat) : ∀ (f : Nat) (l : List UInt8), (rowsF f N l).rest <:+ l
  | 0, l => List.suffix_refl _
  | f + 1, l => by
    unfold rowsF
    refine suf_bind (suf_line ..) (fun o r _ => ?_)
    cases o with
    | none => exact List.suffix_refl _
    | some x => exact suf_bind (suf_lit ..) (fun _ r' _ => suf_map (suf_rowsF N f r'))
theorem suf_rows (N : Nat) (l : List UInt8) : (rows N l).rest <:+ l := suf_rowsF ..
theorem ok_suf {α : Type} {o : Out α} {v : α} {r l : List UInt8} (h : o.rest <:+ l) (e : o = .ok v r) : r <:+ l := by subst e; exact h

/-- labels up to the brace -/
theorem dr_tags (N : Nat) : ∀ (f : Nat) (l : List UInt8), l.length < f → ∀ q, (q = 27 ∨ (q = 21 ∧ ¬ l.head? = some 125)) → dr (q, []) l = (tagsF f N l).cont (dr (28, []))
  | 0, l, h, q, hq => absurd h (by omega)
  | f + 1, l, h, q, hq => by
    rw [dr_tag1 (ta := []) N l hq]
    unfold tagsF
    rw [cont_bind]
    cases e : tag1 N l with
    | fell r => rfl
    | ok t r =>
      dsimp only
      show dr (25, []) r = _
      have hr := (ok_suf (suf_tag1 N l) e).length_le
      rw [dr_dex (by decide), show tab 25 = [(.is 44, 27), (.is 125, 28)] from rfl]
      by_cases h1 : r.head? = some 44
      · rw [dex_yes h1]
        simp only [h1, if_true]
        rw [cont_map]
        have hr0 : r ≠ [] := by intro e; subst e; cases h1
        have := List.length_pos_iff.2 hr0
        exact dr_tags N f r.tail (by rw [List.length_tail]; omega) 27 (Or.inl rfl)
      · rw [dex_skip (is_no h1), dex_is]
        simp only [h1, if_false]
        rw [cont_bind]
        cases lit [125] r <;> rfl

def nl (r : List UInt8) : Option (List UInt8) := (lit [10] r).cont (dr (0, []))
theorem dr_sample (N : Nat) (l : List UInt8) (h : ¬ l.head? = some 35) : dr (0, []) l = (sample N l).cont nl := by
  rw [dr_dex (by decide), show tab 0 = [(.is 35, 1), (.nm1, 20)] from rfl, dex_skip (is_no h)]
  have e1 : dex [(.nm1, 20)] l = (run 2 [] true l).cont (dex [(.is 123, 21), (.is 32, 40)]) := by
    exact dex_run (qb := 20) (k := 2) (first := true) (kb := .nm) rfl (by decide) (fun c => by simp [Cl.has]) (fun c => rfl) (fun c _ => rfl)
  rw [e1]
  unfold sample
  rw [cont_bind]
  cases run 2 [] true l with
  | fell r => rfl
  | ok nm r1 =>
    dsimp only
    show dex [(.is 123, 21), (.is 32, 40)] r1 = _
    rw [cont_bind]
    have step : ∀ (tg : List Tg) (r2 : List UInt8), (lit [32] r2).cont (dr (40, [])) = ((lit [32] r2).bind fun _ r3 => (num false r3).bind fun tx r4 =>
        if r4.head? = some 32 then (num false r4.tail).bind fun tm r5 => Out.ok (⟨0, nm, N - l.length, tg, tx, N - r3.length, true, tm, N - r4.tail.length⟩ : Rw) r5
        else .ok ⟨0, nm, N - l.length, tg, tx, N - r3.length, false, [], 0⟩ r4).cont nl := by
      intro tg r2
      rw [cont_bind]
      cases lit [32] r2 with
      | fell r => rfl
      | ok u r3 =>
        dsimp only
        show dr (40, []) r3 = _
        rw [dr_num (qs := 40) (qm := 41) (qd := 42) (qp := 43) (qf := 44) (t := [(.is 32, 45), (.is 10, 0)]) rfl rfl rfl rfl rfl (by decide) (by decide) (by decide) (by decide) (by decide), cont_bind]
        cases num false r3 with
        | fell r => rfl
        | ok tx r4 =>
          dsimp only
          show dex [(.is 32, 45), (.is 10, 0)] r4 = _
          by_cases h1 : r4.head? = some 32
          · rw [dex_yes h1, dr_num (qs := 45) (qm := 46) (qd := 47) (qp := 48) (qf := 49) (t := [(.is 10, 0)]) rfl rfl rfl rfl rfl (by decide) (by decide) (by decide) (by decide) (by decide)]
            simp only [h1, if_true]
            rw [cont_bind]
            cases num false r4.tail with
            | fell r => rfl
            | ok tm r5 => exact dex_is 10 0 r5
          · rw [dex_skip (is_no h1), dex_is]
            simp only [h1, if_false]; rfl
    by_cases h1 : r1.head? = some 123
    · rw [dex_yes h1]
      simp only [h1, if_true]
      by_cases h2 : r1.tail.head? = some 125
      · simp only [h2, if_true]
        rw [dr_dex (by decide), show tab 21 = [(.is 125, 28), (.lb1, 22)] from rfl, dex_yes h2, dr_is (q' := 40) (t := 32) rfl (by decide)]
        exact step [] _
      · simp only [h2, if_false]
        unfold tags
        rw [dr_tags N (r1.tail.length + 1) r1.tail (by omega) 21 (Or.inr ⟨rfl, h2⟩)]
        cases tagsF (r1.tail.length + 1) N r1.tail with
        | fell r => rfl
        | ok tg r2 =>
          dsimp only
          show dr (28, []) r2 = _
          rw [dr_is (q' := 40) (t := 32) rfl (by decide)]
          exact step tg r2
    · rw [dex_skip (is_no h1), dex_is]
      simp only [h1, if_false]
      exact step [] r1

end Ow
end Go.Proofs.YthniemoganoapaaDoor
