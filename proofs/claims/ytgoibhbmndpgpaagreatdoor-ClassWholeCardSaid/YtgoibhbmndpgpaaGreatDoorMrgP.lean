/- The texts MrgPlain, MrgPlainB, MrgPlainC, one behind the other. -/
import Derived.Test.YtgoibhbmndpgpaaGreatDoorBatP

/- Rows put together, in plain words: what stands in one row, in the other, in both; points, families, batches put together. -/
set_option maxRecDepth 100000
set_option linter.unusedVariables false
set_option linter.unusedSimpArgs false
namespace Go.Proofs.YtgoibhbmndpgpaaGreatDoor
open Dc

section
variable {α : Type} {f : α → α → Int} {g : α → α → α}
theorem TP.sym (hf : TP f) {x y : α} (h : f x y = 0) : f y x = 0 := by rw [hf.neg]; omega
/-- what is like x stands to each as x does -/
theorem TP.cong (hf : TP f) {x y : α} (h : f x y = 0) (z : α) : (f x z ≤ 0 ↔ f y z ≤ 0) ∧ (0 ≤ f x z ↔ 0 ≤ f y z) := by
  have h' := hf.sym h
  refine ⟨⟨fun k => hf.le y x z (by omega) k, fun k => hf.le x y z (by omega) k⟩, ⟨fun k => ?_, fun k => ?_⟩⟩
  · have := hf.le z x y (by rw [hf.neg]; omega) (by omega)
    rw [hf.neg] at this; omega
  · have := hf.le z y x (by rw [hf.neg]; omega) (by omega)
    rw [hf.neg] at this; omega
theorem TP.cong' (hf : TP f) {x y : α} (h : f x y = 0) (z : α) : (f z x ≤ 0 ↔ f z y ≤ 0) ∧ (0 ≤ f z x ↔ 0 ≤ f z y) := by
  have := hf.cong h z
  rw [hf.neg x z, hf.neg y z]
  omega
theorem TP.zero (hf : TP f) {x y : α} (h : f x y = 0) (z : α) : f x z = 0 ↔ f y z = 0 := by have := hf.cong h z; omega

variable (f) in
/-- the first one like k -/
def look (l : List α) (k : α) : Option α := l.find? fun x => decide (f x k = 0)
theorem look_cons (x : α) (l : List α) (k : α) : look f (x :: l) k = if f x k = 0 then some x else look f l k := by
  unfold look
  rw [List.find?_cons]
  by_cases h : f x k = 0
  · rw [if_pos h, decide_eq_true h]
  · rw [if_neg h, decide_eq_false h]
theorem look_some {l : List α} {k x : α} (h : look f l k = some x) : x ∈ l ∧ f x k = 0 :=
  ⟨List.mem_of_find?_eq_some h, of_decide_eq_true (by have := List.find?_some h; exact this)⟩
theorem look_none {l : List α} {k : α} : look f l k = none ↔ ∀ x ∈ l, f x k ≠ 0 := by
  unfold look
  rw [List.find?_eq_none]
  exact ⟨fun h x hx e => h x hx (decide_eq_true e), fun h x hx e => h x hx (of_decide_eq_true e)⟩
theorem look_mem (hf : TP f) {l : List α} (hn : NdT f l) {x k : α} (hx : x ∈ l) (h : f x k = 0) : look f l k = some x := by
  induction l with
  | nil => cases hx
  | cons y l ih =>
    rw [look_cons]
    rcases List.mem_cons.1 hx with rfl | hx
    · rw [if_pos h]
    · have hy : f y x ≠ 0 := (List.pairwise_cons.1 hn).1 x hx
      rw [if_neg (fun e => hy ((hf.cong' h y).1 |> fun _ => by have := hf.cong' h y; omega))]
      exact ih (List.pairwise_cons.1 hn).2 hx
theorem mem_look (hf : TP f) {l : List α} (hn : NdT f l) {x : α} : x ∈ l ↔ look f l x = some x :=
  ⟨fun h => look_mem hf hn h (hf.refl x), fun h => (look_some h).1⟩
variable (f g) in
/-- y put into a row: in its place, or together with the one like it -/
def ins (y : α) : List α → List α
  | [] => [y]
  | x :: l => if f x y < 0 then x :: ins y l else if f x y = 0 then g x y :: l else y :: x :: l
variable (f g) in
/-- each of m put into l -/
def mrg (l m : List α) : List α := m.foldl (fun a y => ins f g y a) l
variable (g) in
def comb : Option α → Option α → Option α
  | none, o => o
  | some x, none => some x
  | some x, some y => some (g x y)
theorem comb_none (o : Option α) : comb g o none = o := by cases o <;> rfl
theorem mrg_cons (l : List α) (y : α) (m : List α) : mrg f g l (y :: m) = mrg f g (ins f g y l) m := rfl
theorem mrg_append (l m n : List α) : mrg f g l (m ++ n) = mrg f g (mrg f g l m) n := List.foldl_append
theorem ins_mem {y z : α} : ∀ {l : List α}, z ∈ ins f g y l → z ∈ l ∨ z = y ∨ ∃ x ∈ l, f x y = 0 ∧ z = g x y
  | [], h => .inr (.inl (by simpa [ins] using h))
  | x :: l, h => by
    rw [ins] at h
    split at h
    · rcases List.mem_cons.1 h with rfl | h
      · exact .inl List.mem_cons_self
      · rcases ins_mem h with h | h | ⟨v, hv, h⟩
        · exact .inl (List.mem_cons_of_mem _ h)
        · exact .inr (.inl h)
        · exact .inr (.inr ⟨v, List.mem_cons_of_mem _ hv, h⟩)
    · split at h
      · rename_i e
        rcases List.mem_cons.1 h with rfl | h
        · exact .inr (.inr ⟨x, List.mem_cons_self, e, rfl⟩)
        · exact .inl (List.mem_cons_of_mem _ h)
      · rcases List.mem_cons.1 h with rfl | h
        · exact .inr (.inl rfl)
        · exact .inl h
theorem ins_strict (hf : TP f) (hg : ∀ x y, f x y = 0 → f (g x y) y = 0) (y : α) : ∀ {l : List α}, StrictT f l → StrictT f (ins f g y l)
  | [], _ => List.pairwise_singleton _ _
  | x :: l, h => by
    have h1 := (List.pairwise_cons.1 h).1
    have h2 := (List.pairwise_cons.1 h).2
    rw [ins]
    split
    · rename_i e
      refine List.pairwise_cons.2 ⟨fun z hz => ?_, ins_strict hf hg y h2⟩
      rcases ins_mem hz with hz | rfl | ⟨v, hv, e2, rfl⟩
      · exact h1 z hz
      · exact e
      · have := hf.cong' (hg v y e2) x
        omega
    · rename_i e
      split
      · rename_i e2
        refine List.pairwise_cons.2 ⟨fun z hz => ?_, h2⟩
        have a := hf.cong (hg x y e2) z
        have b := hf.cong e2 z
        have := h1 z hz
        omega
      · rename_i e2
        have hy : f y x < 0 := by rw [hf.neg]; omega
        refine List.pairwise_cons.2 ⟨fun z hz => ?_, h⟩
        rcases List.mem_cons.1 hz with rfl | hz
        · exact hy
        · exact hf.lt hy (Int.le_of_lt (h1 z hz))
theorem ins_look (hf : TP f) (hg : ∀ x y, f x y = 0 → f (g x y) y = 0) (y k : α) : ∀ {l : List α}, StrictT f l →
    look f (ins f g y l) k = if f y k = 0 then comb g (look f l k) (some y) else look f l k
  | [], _ => by rw [ins, look_cons]; rfl
  | x :: l, h => by
    have h1 := (List.pairwise_cons.1 h).1
    have h2 := (List.pairwise_cons.1 h).2
    rw [ins]
    split
    · rename_i e
      rw [look_cons, look_cons, ins_look hf hg y k h2]
      by_cases a : f x k = 0
      · have := hf.cong a y
        have := hf.cong' a y
        have := hf.neg y k
        have := hf.neg x y
        rw [if_pos a, if_pos a, if_neg (by have := hf.neg y x; omega)]
      · rw [if_neg a, if_neg a]
    · rename_i e
      split
      · rename_i e2
        rw [look_cons, look_cons]
        have a := hf.zero (hg x y e2) k
        have b := hf.zero e2 k
        by_cases c : f y k = 0
        · rw [if_pos (a.2 c), if_pos c, if_pos (b.2 c)]; rfl
        · rw [if_neg (fun z => c (a.1 z)), if_neg c, if_neg (fun z => c (b.1 z))]
      · rename_i e2
        rw [look_cons (f := f) y]
        by_cases c : f y k = 0
        · rw [if_pos c, if_pos c]
          have : look f (x :: l) k = none := look_none.2 fun z hz hk => by
            have h3 : f x z ≤ 0 := by
              rcases List.mem_cons.1 hz with rfl | hz
              · rw [hf.refl]; exact Int.le_refl _
              · exact Int.le_of_lt (h1 z hz)
            have h4 := hf.cong' hk x
            have h5 := hf.cong' c x
            omega
          rw [this]; rfl
        · rw [if_neg c, if_neg c]
theorem mrg_strict (hf : TP f) (hg : ∀ x y, f x y = 0 → f (g x y) y = 0) : ∀ {m l : List α}, StrictT f l → StrictT f (mrg f g l m)
  | [], _, h => h
  | y :: m, l, h => mrg_strict hf hg (m := m) (ins_strict hf hg y h)
theorem mrg_look (hf : TP f) (hg : ∀ x y, f x y = 0 → f (g x y) y = 0) (k : α) : ∀ {m l : List α}, StrictT f l → NdT f m → look f (mrg f g l m) k = comb g (look f l k) (look f m k)
  | [], l, _, _ => (comb_none _).symm
  | y :: m, l, h, hn => by
    rw [mrg_cons, mrg_look hf hg k (ins_strict hf hg y h) (List.pairwise_cons.1 hn).2, ins_look hf hg y k h, look_cons]
    by_cases c : f y k = 0
    · have : look f m k = none := look_none.2 fun z hz hk => (List.pairwise_cons.1 hn).1 z hz (by have := hf.cong' hk y; omega)
      rw [if_pos c, if_pos c, this, comb_none]
    · rw [if_neg c, if_neg c]
/-- where what comes of two rows comes from -/
theorem mrg_from (hf : TP f) (hg : ∀ x y, f x y = 0 → f (g x y) y = 0) {l m : List α} (hl : StrictT f l) (hm : NdT f m) {z : α} (hz : z ∈ mrg f g l m) :
    z ∈ l ∨ z ∈ m ∨ ∃ x ∈ l, ∃ y ∈ m, f x y = 0 ∧ z = g x y := by
  have h1 := (mem_look hf (strictT_nd (mrg_strict hf hg (m := m) hl))).1 hz
  rw [mrg_look hf hg z hl hm] at h1
  cases hx : look f l z with
  | none => rw [hx] at h1; exact .inr (.inl (look_some h1).1)
  | some x =>
    rw [hx] at h1
    cases hy : look f m z with
    | none => rw [hy] at h1; obtain rfl := Option.some.inj h1; exact .inl (look_some hx).1
    | some y =>
      rw [hy] at h1
      have a := look_some hx
      have b := look_some hy
      refine .inr (.inr ⟨x, a.1, y, b.1, ?_, (Option.some.inj h1).symm⟩)
      have := hf.cong' b.2 x
      omega
theorem ins_len (y : α) : ∀ l : List α, l.length ≤ (ins f g y l).length ∧ (ins f g y l).length ≤ l.length + 1
  | [] => ⟨by simp [ins], by simp [ins]⟩
  | x :: l => by
    have := ins_len y l
    rw [ins]
    split
    · simp only [List.length_cons]; omega
    · split <;> simp only [List.length_cons] <;> omega
theorem mrg_len : ∀ (m l : List α), l.length ≤ (mrg f g l m).length ∧ (mrg f g l m).length ≤ l.length + m.length
  | [], l => ⟨Nat.le_refl _, Nat.le_refl _⟩
  | y :: m, l => by
    have h1 := mrg_len m (ins f g y l)
    have h2 := ins_len (f := f) (g := g) y l
    rw [mrg_cons, List.length_cons]
    omega
end

/-- the later one -/
abbrev snd2 (_ q : Pt) : Pt := q
theorem snd_hg (x y : Pt) (_ : cmpP x y = 0) : cmpP (snd2 x y) y = 0 := tp_cmpP.refl y
/-- points put together -/
abbrev mrgP (a b : List Pt) : List Pt := mrg cmpP snd2 a b
/-- one text, where it is none the other one -/
def orS (x y : List UInt8) : List UInt8 := if x = [] then y else x
/-- families of one name put together -/
def putP (x y : Fp) : Fp := (⟨x.1.n, x.1.k, orS y.1.u x.1.u, orS y.1.h x.1.h⟩, mrgP x.2 y.2)
theorem put_hg (x y : Fp) (h : cmpF x y = 0) : cmpF (putP x y) y = 0 := h
/-- rows of families put together -/
abbrev mrgF (a b : List Fp) : List Fp := mrg cmpF putP a b
/-- points of both are points of what they are together -/
theorem mrgP_from {a b : List Pt} (ha : StrictP a) (hb : StrictP b) {p : Pt} (h : p ∈ mrgP a b) : p ∈ a ∨ p ∈ b := by
  rcases mrg_from tp_cmpP snd_hg ha (strictT_nd hb) h with h | h | ⟨x, _, y, hy, _, rfl⟩
  · exact .inl h
  · exact .inr h
  · exact .inr hy
theorem famOk_iff {h : Hd} {l : List Pt} : famOk h l = true ↔ nameOk h.n = true ∧ kindOk h.k = true ∧ valueOk h.u = true ∧ valueOk h.h = true ∧ (∀ p ∈ l, ptOk h.k p = true) ∧ StrictP l := by
  unfold famOk
  rw [Bool.and_eq_true, Bool.and_eq_true, Bool.and_eq_true, Bool.and_eq_true, Bool.and_eq_true, List.all_eq_true, decide_eq_true_iff]
  exact ⟨fun ⟨⟨⟨⟨⟨a, b⟩, c⟩, d⟩, e⟩, f⟩ => ⟨a, b, c, d, e, f⟩, fun ⟨a, b, c, d, e, f⟩ => ⟨⟨⟨⟨⟨a, b⟩, c⟩, d⟩, e⟩, f⟩⟩
theorem famOk_put {x y : Fp} (hx : famOk x.1 x.2 = true) (hy : famOk y.1 y.2 = true) (hk : x.1.k = y.1.k) : famOk (putP x y).1 (putP x y).2 = true := by
  obtain ⟨a, b, c, d, e, f⟩ := famOk_iff.1 hx
  obtain ⟨a', b', c', d', e', f'⟩ := famOk_iff.1 hy
  refine famOk_iff.2 ⟨a, b, ?_, ?_, fun p hp => ?_, mrg_strict tp_cmpP snd_hg f⟩
  · show valueOk (orS y.1.u x.1.u) = true
    unfold orS; split
    · exact c
    · exact c'
  · show valueOk (orS y.1.h x.1.h) = true
    unfold orS; split
    · exact d
    · exact d'
  · rcases mrgP_from f f' hp with h | h
    · exact e p h
    · show ptOk x.1.k p = true
      rw [hk]; exact e' p h
end Go.Proofs.YtgoibhbmndpgpaaGreatDoor

/- Families and batches put together, in plain words: what may be, what is told, and in whatever grouping. -/
set_option maxRecDepth 100000
set_option linter.unusedVariables false
set_option linter.unusedSimpArgs false
namespace Go.Proofs.YtgoibhbmndpgpaaGreatDoor
open Dc

theorem cmpF_zero {x y : Fp} : cmpF x y = 0 ↔ x.1.n = y.1.n := cb_zero _ _
/-- families of one name are of one kind -/
def agreeF (L : List Fp) : Prop := ∀ x ∈ L, ∀ y ∈ L, cmpF x y = 0 → x.1.k = y.1.k
/-- z's name and kind are those of one of S -/
def kin (S : List Fp) (z : Fp) : Prop := ∃ x ∈ S, cmpF z x = 0 ∧ z.1.k = x.1.k
theorem kin_self {S : List Fp} {z : Fp} (h : z ∈ S) : kin S z := ⟨z, h, tp_cmpF.refl z, rfl⟩
theorem agree_kin {S T : List Fp} (h : ∀ z ∈ T, kin S z) (ha : agreeF S) : agreeF T := fun x hx y hy e => by
  obtain ⟨x', h1, h2, h3⟩ := h x hx
  obtain ⟨y', h4, h5, h6⟩ := h y hy
  have a := tp_cmpF.cong h2 y
  have b := tp_cmpF.cong' h5 x'
  rw [h3, h6]
  exact ha x' h1 y' h4 (by omega)
theorem agree_sub {S T : List Fp} (h : ∀ z ∈ T, z ∈ S) (ha : agreeF S) : agreeF T := agree_kin (fun z hz => kin_self (h z hz)) ha
theorem ins_kin {y z : Fp} {l : List Fp} (h : z ∈ ins cmpF putP y l) : kin (l ++ [y]) z := by
  rcases ins_mem h with h | rfl | ⟨x, hx, e, rfl⟩
  · exact kin_self (List.mem_append_left _ h)
  · exact kin_self (by simp)
  · exact ⟨x, List.mem_append_left _ hx, tp_cmpF.refl x, rfl⟩
theorem mrg_kin : ∀ {L l : List Fp} {z : Fp}, z ∈ mrgF l L → kin (l ++ L) z
  | [], l, z, h => kin_self (by rw [List.append_nil]; exact h)
  | y :: L, l, z, h => by
    obtain ⟨x, hx, e, k⟩ := mrg_kin (L := L) (l := ins cmpF putP y l) h
    have hk : kin (l ++ y :: L) x := by
      rcases List.mem_append.1 hx with hx | hx
      · obtain ⟨u, hu, e2, k2⟩ := ins_kin hx
        refine ⟨u, ?_, e2, k2⟩
        rcases List.mem_append.1 hu with hu | hu
        · exact List.mem_append_left _ hu
        · rw [List.mem_singleton.1 hu]; simp
      · exact kin_self (by simp [hx])
    obtain ⟨u, hu, e2, k2⟩ := hk
    exact ⟨u, hu, by have := tp_cmpF.zero e u; omega, by rw [k, k2]⟩
theorem mrg_famOk : ∀ {L l : List Fp}, (∀ x ∈ l ++ L, famOk x.1 x.2 = true) → agreeF (l ++ L) → ∀ z ∈ mrgF l L, famOk z.1 z.2 = true
  | [], l, h, _ => fun z hz => h z (by rw [List.append_nil]; exact hz)
  | y :: L, l, h, ha => by
    refine mrg_famOk (L := L) (l := ins cmpF putP y l) (fun x hx => ?_) (agree_kin (fun z hz => ?_) ha)
    · rcases List.mem_append.1 hx with hx | hx
      · rcases ins_mem hx with hx | rfl | ⟨v, hv, e, rfl⟩
        · exact h x (List.mem_append_left _ hx)
        · exact h x (by simp)
        · exact famOk_put (h v (List.mem_append_left _ hv)) (h y (by simp)) (ha v (List.mem_append_left _ hv) y (by simp) e)
      · exact h x (by simp [hx])
    · rcases List.mem_append.1 hz with hz | hz
      · obtain ⟨u, hu, e2, k2⟩ := ins_kin hz
        refine ⟨u, ?_, e2, k2⟩
        rcases List.mem_append.1 hu with hu | hu
        · exact List.mem_append_left _ hu
        · rw [List.mem_singleton.1 hu]; simp
      · exact kin_self (by simp [hz])
theorem nPts_cons (x : Fp) (l : List Fp) : nPts (x :: l) = x.2.length + nPts l := by unfold nPts; simp
theorem mrgF_strict {l : List Fp} (h : StrictT cmpF l) (L : List Fp) : StrictT cmpF (mrgF l L) := mrg_strict tp_cmpF put_hg h
/-- a batch as plain data -/
abbrev Bp := List UInt8 × List Fp
/-- all families of these batches, one behind the other -/
def flat (l : List Bp) : List Fp := l.flatMap (·.2)
theorem flat_cons (b : Bp) (l : List Bp) : flat (b :: l) = b.2 ++ flat l := rfl
theorem flat_append (l m : List Bp) : flat (l ++ m) = flat l ++ flat m := List.flatMap_append
theorem flat_mem {l : List Bp} {x : Fp} : x ∈ flat l ↔ ∃ b ∈ l, x ∈ b.2 := List.mem_flatMap
/-- all families put together -/
abbrev allF (L : List Fp) : List Fp := mrgF [] L
theorem allF_strict (L : List Fp) : StrictT cmpF (allF L) := mrgF_strict List.Pairwise.nil L
/-- the first one's tenant -/
def ten : List Bp → List UInt8
  | [] => []
  | b :: _ => b.1
open Classical in
/-- why these batches can't be put together, whatever their size -/
noncomputable def mRef (l : List Bp) : Int := if ∀ b ∈ l, chk b.1 b.2 = 0 then (if ∀ b ∈ l, b.1 = ten l then (if agreeF (flat l) then 0 else 13) else 18) else 19
theorem mRef_zero {l : List Bp} : mRef l = 0 ↔ (∀ b ∈ l, chk b.1 b.2 = 0) ∧ (∀ b ∈ l, b.1 = ten l) ∧ agreeF (flat l) := by
  unfold mRef
  constructor
  · intro h
    split at h
    · split at h
      · split at h
        · exact ⟨‹_›, ‹_›, ‹_›⟩
        · exact absurd h (by decide)
      · exact absurd h (by decide)
    · exact absurd h (by decide)
  · rintro ⟨h1, h2, h3⟩
    rw [if_pos h1, if_pos h2, if_pos h3]
theorem chk_parts {b : Bp} (h : chk b.1 b.2 = 0) : StrictT cmpF b.2 ∧ (∀ x ∈ b.2, famOk x.1 x.2 = true) ∧ tenOk b.1 = true ∧ b.2.length ≤ 30 ∧ nPts b.2 ≤ 120 := by
  obtain ⟨h1, h2, h3⟩ := chk_zero h
  obtain ⟨a, b, c⟩ := batOk_iff.1 h1
  exact ⟨c, b, a, h2, h3⟩
theorem fam_strict {x : Fp} (h : famOk x.1 x.2 = true) : StrictP x.2 := famOk_strict h
theorem chk_ps {b : Bp} (h : chk b.1 b.2 = 0) : ∀ x ∈ b.2, StrictP x.2 := fun x hx => fam_strict ((chk_parts h).2.1 x hx)
end Go.Proofs.YtgoibhbmndpgpaaGreatDoor

/- One family more put together with what is there: what each step of package merge's together needs, in plain words. -/
set_option maxRecDepth 100000
set_option linter.unusedVariables false
set_option linter.unusedSimpArgs false
namespace Go.Proofs.YtgoibhbmndpgpaaGreatDoor
open Dc

theorem nPts_ins_le (y : Fp) : ∀ l : List Fp, nPts (ins cmpF putP y l) ≤ nPts l + y.2.length
  | [] => by rw [ins, nPts_cons, nPts_nil]; omega
  | x :: l => by
    have := nPts_ins_le y l
    rw [ins]
    split
    · rw [nPts_cons, nPts_cons]; omega
    · split
      · rw [nPts_cons, nPts_cons]
        have h : (putP x y).2.length ≤ x.2.length + y.2.length := (mrg_len (f := cmpP) (g := snd2) y.2 x.2).2
        omega
      · rw [nPts_cons y]; omega
theorem nPts_mrg_le : ∀ (m l : List Fp), nPts (mrgF l m) ≤ nPts l + nPts m
  | [], l => Nat.le_add_right _ _
  | y :: m, l => by
    have h1 := nPts_mrg_le m (ins cmpF putP y l)
    have h2 := nPts_ins_le y l
    rw [nPts_cons]
    show nPts (mrgF (ins cmpF putP y l) m) ≤ _
    omega
theorem nPts_mem {l : List Fp} {x : Fp} (h : x ∈ l) : x.2.length ≤ nPts l := by
  induction l with
  | nil => cases h
  | cons y l ih =>
    rw [nPts_cons]
    rcases List.mem_cons.1 h with rfl | h
    · omega
    · have := ih h; omega
theorem nPts_sub {l : List Fp} (k : Nat) : nPts (l.take k) ≤ nPts l := by
  have h : nPts (l.take k) + nPts (l.drop k) = nPts l := by
    unfold nPts
    rw [← List.sum_append, ← List.map_append, List.take_append_drop]
  omega
/-- what may be put together with A -/
structure TogOk (A B : List Fp) : Prop where
  s : StrictT cmpF A
  ok : ∀ x ∈ A ++ B, famOk x.1 x.2 = true
  ag : agreeF (A ++ B)
  nA : A.length ≤ 400
  nB : B.length ≤ 400
  pA : nPts A ≤ 200
  pB : nPts B ≤ 200
theorem TogOk.take {A B : List Fp} (h : TogOk A B) (k : Nat) : ∀ x ∈ A ++ B.take k, x ∈ A ++ B := fun x hx => by
  rcases List.mem_append.1 hx with h | h
  · exact List.mem_append_left _ h
  · exact List.mem_append_right _ (List.mem_of_mem_take h)
theorem TogOk.strict {A B : List Fp} (h : TogOk A B) (k : Nat) : StrictT cmpF (mrgF A (B.take k)) := mrgF_strict h.s _
theorem TogOk.fams {A B : List Fp} (h : TogOk A B) (k : Nat) : ∀ z ∈ mrgF A (B.take k), famOk z.1 z.2 = true := mrg_famOk (fun x hx => h.ok x (h.take k x hx)) (agree_sub (h.take k) h.ag)
theorem TogOk.len {A B : List Fp} (h : TogOk A B) (k : Nat) : (mrgF A (B.take k)).length ≤ 800 := by
  have h1 : (mrgF A (B.take k)).length ≤ A.length + (B.take k).length := (mrg_len _ _).2
  have h2 := h.nA
  have h3 := h.nB
  rw [List.length_take] at h1
  omega
theorem TogOk.pts {A B : List Fp} (h : TogOk A B) (k : Nat) : ∀ z ∈ mrgF A (B.take k), z.2.length ≤ 400 := fun z hz => by
  have h1 := nPts_mem hz
  have h2 := nPts_mrg_le (B.take k) A
  have h3 := nPts_sub (l := B) k
  have h4 := h.pA
  have h5 := h.pB
  omega
theorem TogOk.same {A B : List Fp} (h : TogOk A B) {k : Nat} {x y : Fp} (hx : x ∈ mrgF A (B.take k)) (hy : y ∈ B) (e : cmpF x y = 0) : x.1.n = y.1.n ∧ x.1.k = y.1.k ∧ famOk x.1 x.2 = true ∧ famOk y.1 y.2 = true := by
  refine ⟨cmpF_zero.1 e, ?_, h.fams k x hx, h.ok y (List.mem_append_right _ hy)⟩
  obtain ⟨u, hu, e2, k2⟩ := mrg_kin hx
  rw [k2]
  exact h.ag u (h.take k u hu) y (List.mem_append_right _ hy) (by have := tp_cmpF.zero e2 y; omega)
end Go.Proofs.YtgoibhbmndpgpaaGreatDoor
