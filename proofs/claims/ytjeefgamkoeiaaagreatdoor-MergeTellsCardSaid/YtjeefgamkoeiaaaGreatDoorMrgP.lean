/- The texts MrgPlain, MrgPlainB, MrgPlainC, one behind the other. -/
import Derived.Test.YtjeefgamkoeiaaaGreatDoorBatP

/- Rows put together, in plain words: what stands in one row, in the other, in both; points, families, batches put together. -/
set_option maxRecDepth 100000
set_option linter.unusedVariables false
set_option linter.unusedSimpArgs false
namespace Go.Proofs.YtjeefgamkoeiaaaGreatDoor
open Dc

section
variable {α : Type} {f : α → α → Int} {g : α → α → α}
theorem TP.sym (hf : TP f) {x y : α} (h : f x y = 0) : f y x = 0 := by rw [hf.neg]; omega
/-- what is like x stands to each as x does -/
theorem TP.cong (hf : TP f) {x y : α} (h : f x y = 0) (z : α) : (f x z ≤ 0 ↔ f y z ≤ 0) ∧ (0 ≤ f x z ↔ 0 ≤ f y z) := by
  have h' := hf.sym h
  refine ⟨⟨fun k => hf.le y x z (by omega) k, fun k => hf.le x y z (by omega) k⟩, ⟨fun k => ?_, fun k => ?_⟩⟩
  · have := hf.le z x y (by rw [hf.neg]; omega) (by omega)
    rw [hf.neg] at this; omega
  · have := hf.le z y x (by rw [hf.neg]; omega) (by omega)
    rw [hf.neg] at this; omega
theorem TP.cong' (hf : TP f) {x y : α} (h : f x y = 0) (z : α) : (f z x ≤ 0 ↔ f z y ≤ 0) ∧ (0 ≤ f z x ↔ 0 ≤ f z y) := by
  have := hf.cong h z
  rw [hf.neg x z, hf.neg y z]
  omega
theorem TP.zero (hf : TP f) {x y : α} (h : f x y = 0) (z : α) : f x z = 0 ↔ f y z = 0 := by have := hf.cong h z; omega

variable (f) in
/-- the first one like k -/
def look (l : List α) (k : α) : Option α := l.find? fun x => decide (f x k = 0)
theorem look_cons (x : α) (l : List α) (k : α) : look f (x :: l) k = if f x k = 0 then some x else look f l k := by
  unfold look
  rw [List.find?_cons]
  by_cases h : f x k = 0
  · rw [if_pos h, decide_eq_true h]
  · rw [if_neg h, decide_eq_false h]
theorem look_some {l : List α} {k x : α} (h : look f l k = some x) : x ∈ l ∧ f x k = 0 :=
  ⟨List.mem_of_find?_eq_some h, of_decide_eq_true (by have := List.find?_some h; exact this)⟩
theorem look_none {l : List α} {k : α} : look f l k = none ↔ ∀ x ∈ l, f x k ≠ 0 := by
  unfold look
  rw [List.find?_eq_none]
  exact ⟨fun h x hx e => h x hx (decide_eq_true e), fun h x hx e => h x hx (of_decide_eq_true e)⟩
theorem look_mem (hf : TP f) {l : List α} (hn : NdT f l) {x k : α} (hx : x ∈ l) (h : f x k = 0) : look f l k = some x := by
  induction l with
  | nil => cases hx
  | cons y l ih =>
    rw [look_cons]
    rcases List.mem_cons.1 hx with rfl | hx
    · rw [if_pos h]
    · have hy : f y x ≠ 0 := (List.pairwise_cons.1 hn).1 x hx
      rw [if_neg (fun e => hy ((hf.cong' h y).1 |> fun _ => by have := hf.cong' h y; omega))]
      exact ih (List.pairwise_cons.1 hn).2 hx
theorem look_congr (hf : TP f) {l : List α} {j k : α} (h : f j k = 0) : look f l j = look f l k := by
  induction l with
  | nil => rfl
  | cons x l ih =>
    have := hf.cong' h x
    rw [look_cons, look_cons, ih]
    by_cases e : f x j = 0
    · rw [if_pos e, if_pos (by omega)]
    · rw [if_neg e, if_neg (by omega)]
theorem mem_look (hf : TP f) {l : List α} (hn : NdT f l) {x : α} : x ∈ l ↔ look f l x = some x :=
  ⟨fun h => look_mem hf hn h (hf.refl x), fun h => (look_some h).1⟩
theorem ndT_nodup (hf : TP f) {l : List α} (hn : NdT f l) : l.Nodup := hn.imp fun {a b} k e => k (by rw [e]; exact hf.refl b)
/-- rows in which the same is found are the same but for their order -/
theorem look_perm (hf : TP f) {a b : List α} (ha : NdT f a) (hb : NdT f b) (h : ∀ k, look f a k = look f b k) : a.Perm b :=
  (List.perm_ext_iff_of_nodup (ndT_nodup hf ha) (ndT_nodup hf hb)).2 fun x => by rw [mem_look hf ha, mem_look hf hb, h]
theorem look_ext (hf : TP f) {a b : List α} (ha : StrictT f a) (hb : StrictT f b) (h : ∀ k, look f a k = look f b k) : a = b :=
  strictT_unique hf (look_perm hf (strictT_nd ha) (strictT_nd hb) h) ha hb
theorem look_append {a b : List α} {k : α} : look f (a ++ b) k = (look f a k).or (look f b k) := by
  unfold look
  rw [List.find?_append]

variable (f g) in
/-- y put into a row: in its place, or together with the one like it -/
def ins (y : α) : List α → List α
  | [] => [y]
  | x :: l => if f x y < 0 then x :: ins y l else if f x y = 0 then g x y :: l else y :: x :: l
variable (f g) in
/-- each of m put into l -/
def mrg (l m : List α) : List α := m.foldl (fun a y => ins f g y a) l
variable (g) in
def comb : Option α → Option α → Option α
  | none, o => o
  | some x, none => some x
  | some x, some y => some (g x y)
theorem comb_none (o : Option α) : comb g o none = o := by cases o <;> rfl
theorem mrg_cons (l : List α) (y : α) (m : List α) : mrg f g l (y :: m) = mrg f g (ins f g y l) m := rfl
theorem mrg_append (l m n : List α) : mrg f g l (m ++ n) = mrg f g (mrg f g l m) n := List.foldl_append
theorem mrg_snoc (l m : List α) (y : α) : mrg f g l (m ++ [y]) = ins f g y (mrg f g l m) := by rw [mrg_append]; rfl
theorem ins_mem {y z : α} : ∀ {l : List α}, z ∈ ins f g y l → z ∈ l ∨ z = y ∨ ∃ x ∈ l, f x y = 0 ∧ z = g x y
  | [], h => .inr (.inl (by simpa [ins] using h))
  | x :: l, h => by
    rw [ins] at h
    split at h
    · rcases List.mem_cons.1 h with rfl | h
      · exact .inl List.mem_cons_self
      · rcases ins_mem h with h | h | ⟨v, hv, h⟩
        · exact .inl (List.mem_cons_of_mem _ h)
        · exact .inr (.inl h)
        · exact .inr (.inr ⟨v, List.mem_cons_of_mem _ hv, h⟩)
    · split at h
      · rename_i e
        rcases List.mem_cons.1 h with rfl | h
        · exact .inr (.inr ⟨x, List.mem_cons_self, e, rfl⟩)
        · exact .inl (List.mem_cons_of_mem _ h)
      · rcases List.mem_cons.1 h with rfl | h
        · exact .inr (.inl rfl)
        · exact .inl h
theorem ins_strict (hf : TP f) (hg : ∀ x y, f x y = 0 → f (g x y) y = 0) (y : α) : ∀ {l : List α}, StrictT f l → StrictT f (ins f g y l)
  | [], _ => List.pairwise_singleton _ _
  | x :: l, h => by
    have h1 := (List.pairwise_cons.1 h).1
    have h2 := (List.pairwise_cons.1 h).2
    rw [ins]
    split
    · rename_i e
      refine List.pairwise_cons.2 ⟨fun z hz => ?_, ins_strict hf hg y h2⟩
      rcases ins_mem hz with hz | rfl | ⟨v, hv, e2, rfl⟩
      · exact h1 z hz
      · exact e
      · have := hf.cong' (hg v y e2) x
        omega
    · rename_i e
      split
      · rename_i e2
        refine List.pairwise_cons.2 ⟨fun z hz => ?_, h2⟩
        have a := hf.cong (hg x y e2) z
        have b := hf.cong e2 z
        have := h1 z hz
        omega
      · rename_i e2
        have hy : f y x < 0 := by rw [hf.neg]; omega
        refine List.pairwise_cons.2 ⟨fun z hz => ?_, h⟩
        rcases List.mem_cons.1 hz with rfl | hz
        · exact hy
        · exact hf.lt hy (Int.le_of_lt (h1 z hz))
theorem ins_look (hf : TP f) (hg : ∀ x y, f x y = 0 → f (g x y) y = 0) (y k : α) : ∀ {l : List α}, StrictT f l →
    look f (ins f g y l) k = if f y k = 0 then comb g (look f l k) (some y) else look f l k
  | [], _ => by rw [ins, look_cons]; rfl
  | x :: l, h => by
    have h1 := (List.pairwise_cons.1 h).1
    have h2 := (List.pairwise_cons.1 h).2
    rw [ins]
    split
    · rename_i e
      rw [look_cons, look_cons, ins_look hf hg y k h2]
      by_cases a : f x k = 0
      · have := hf.cong a y
        have := hf.cong' a y
        have := hf.neg y k
        have := hf.neg x y
        rw [if_pos a, if_pos a, if_neg (by have := hf.neg y x; omega)]
      · rw [if_neg a, if_neg a]
    · rename_i e
      split
      · rename_i e2
        rw [look_cons, look_cons]
        have a := hf.zero (hg x y e2) k
        have b := hf.zero e2 k
        by_cases c : f y k = 0
        · rw [if_pos (a.2 c), if_pos c, if_pos (b.2 c)]; rfl
        · rw [if_neg (fun z => c (a.1 z)), if_neg c, if_neg (fun z => c (b.1 z))]
      · rename_i e2
        rw [look_cons (f := f) y]
        by_cases c : f y k = 0
        · rw [if_pos c, if_pos c]
          have : look f (x :: l) k = none := look_none.2 fun z hz hk => by
            have h3 : f x z ≤ 0 := by
              rcases List.mem_cons.1 hz with rfl | hz
              · rw [hf.refl]; exact Int.le_refl _
              · exact Int.le_of_lt (h1 z hz)
            have h4 := hf.cong' hk x
            have h5 := hf.cong' c x
            omega
          rw [this]; rfl
        · rw [if_neg c, if_neg c]
theorem mrg_strict (hf : TP f) (hg : ∀ x y, f x y = 0 → f (g x y) y = 0) : ∀ {m l : List α}, StrictT f l → StrictT f (mrg f g l m)
  | [], _, h => h
  | y :: m, l, h => mrg_strict hf hg (m := m) (ins_strict hf hg y h)
theorem mrg_look (hf : TP f) (hg : ∀ x y, f x y = 0 → f (g x y) y = 0) (k : α) : ∀ {m l : List α}, StrictT f l → NdT f m → look f (mrg f g l m) k = comb g (look f l k) (look f m k)
  | [], l, _, _ => (comb_none _).symm
  | y :: m, l, h, hn => by
    rw [mrg_cons, mrg_look hf hg k (ins_strict hf hg y h) (List.pairwise_cons.1 hn).2, ins_look hf hg y k h, look_cons]
    by_cases c : f y k = 0
    · have : look f m k = none := look_none.2 fun z hz hk => (List.pairwise_cons.1 hn).1 z hz (by have := hf.cong' hk y; omega)
      rw [if_pos c, if_pos c, this, comb_none]
    · rw [if_neg c, if_neg c]
theorem mrg_nil_l (hf : TP f) (hg : ∀ x y, f x y = 0 → f (g x y) y = 0) {l : List α} (h : StrictT f l) : mrg f g [] l = l := by
  refine look_ext hf (mrg_strict hf hg List.Pairwise.nil) h fun k => ?_
  rw [mrg_look hf hg k List.Pairwise.nil (strictT_nd h)]; rfl
/-- where what comes of two rows comes from -/
theorem mrg_from (hf : TP f) (hg : ∀ x y, f x y = 0 → f (g x y) y = 0) {l m : List α} (hl : StrictT f l) (hm : NdT f m) {z : α} (hz : z ∈ mrg f g l m) :
    z ∈ l ∨ z ∈ m ∨ ∃ x ∈ l, ∃ y ∈ m, f x y = 0 ∧ z = g x y := by
  have h1 := (mem_look hf (strictT_nd (mrg_strict hf hg (m := m) hl))).1 hz
  rw [mrg_look hf hg z hl hm] at h1
  cases hx : look f l z with
  | none => rw [hx] at h1; exact .inr (.inl (look_some h1).1)
  | some x =>
    rw [hx] at h1
    cases hy : look f m z with
    | none => rw [hy] at h1; obtain rfl := Option.some.inj h1; exact .inl (look_some hx).1
    | some y =>
      rw [hy] at h1
      have a := look_some hx
      have b := look_some hy
      refine .inr (.inr ⟨x, a.1, y, b.1, ?_, (Option.some.inj h1).symm⟩)
      have := hf.cong' b.2 x
      omega
theorem ins_len (y : α) : ∀ l : List α, l.length ≤ (ins f g y l).length ∧ (ins f g y l).length ≤ l.length + 1
  | [] => ⟨by simp [ins], by simp [ins]⟩
  | x :: l => by
    have := ins_len y l
    rw [ins]
    split
    · simp only [List.length_cons]; omega
    · split <;> simp only [List.length_cons] <;> omega
theorem mrg_len : ∀ (m l : List α), l.length ≤ (mrg f g l m).length ∧ (mrg f g l m).length ≤ l.length + m.length
  | [], l => ⟨Nat.le_refl _, Nat.le_refl _⟩
  | y :: m, l => by
    have h1 := mrg_len m (ins f g y l)
    have h2 := ins_len (f := f) (g := g) y l
    rw [mrg_cons, List.length_cons]
    omega
/-- by its place: none like it is there -/
theorem ins_no (hf : TP f) {y : α} : ∀ {i : Nat} {l : List α}, StrictT f l → i ≤ l.length → (∀ j x, j < i → l[j]? = some x → f x y < 0) → (∀ j x, i ≤ j → l[j]? = some x → 0 < f x y) → ins f g y l = l.take i ++ y :: l.drop i
  | 0, [], _, _, _, _ => rfl
  | 0, x :: l, _, _, _, h => by
    have := h 0 x (Nat.le_refl _) rfl
    rw [ins, if_neg (by omega), if_neg (by omega)]; rfl
  | i + 1, [], _, hi, _, _ => by simp at hi
  | i + 1, x :: l, hs, hi, h1, h2 => by
    have := h1 0 x (by omega) rfl
    rw [ins, if_pos this, ins_no hf (i := i) (List.pairwise_cons.1 hs).2 (by simpa using hi) (fun j z hj hz => h1 (j + 1) z (by omega) hz) (fun j z hj hz => h2 (j + 1) z (by omega) hz)]
    rfl
theorem ins_yes (hf : TP f) {y : α} : ∀ {i : Nat} {l : List α} {x : α}, StrictT f l → l[i]? = some x → f x y = 0 → ins f g y l = l.set i (g x y)
  | _, [], _, _, h, _ => by simp at h
  | 0, z :: l, x, _, h, e => by
    obtain rfl : z = x := by simpa using h
    rw [ins, if_neg (by omega), if_pos e]; rfl
  | i + 1, z :: l, x, hs, h, e => by
    have hx : l[i]? = some x := by simpa using h
    have a := (List.pairwise_cons.1 hs).1 x (List.mem_of_getElem? hx)
    have b := hf.cong' e z
    rw [ins, if_pos (by omega), ins_yes hf (i := i) (List.pairwise_cons.1 hs).2 hx e]
    rfl
end

/-- the later one -/
abbrev snd2 (_ q : Pt) : Pt := q
theorem snd_hg (x y : Pt) (_ : cmpP x y = 0) : cmpP (snd2 x y) y = 0 := tp_cmpP.refl y
/-- points put together -/
abbrev mrgP (a b : List Pt) : List Pt := mrg cmpP snd2 a b
/-- one text, where it is none the other one -/
def orS (x y : List UInt8) : List UInt8 := if x = [] then y else x
/-- families of one name put together -/
def putP (x y : Fp) : Fp := (⟨x.1.n, x.1.k, orS y.1.u x.1.u, orS y.1.h x.1.h⟩, mrgP x.2 y.2)
theorem put_hg (x y : Fp) (h : cmpF x y = 0) : cmpF (putP x y) y = 0 := h
/-- rows of families put together -/
abbrev mrgF (a b : List Fp) : List Fp := mrg cmpF putP a b
/-- points of both are points of what they are together -/
theorem mrgP_from {a b : List Pt} (ha : StrictP a) (hb : StrictP b) {p : Pt} (h : p ∈ mrgP a b) : p ∈ a ∨ p ∈ b := by
  rcases mrg_from tp_cmpP snd_hg ha (strictT_nd hb) h with h | h | ⟨x, _, y, hy, _, rfl⟩
  · exact .inl h
  · exact .inr h
  · exact .inr hy
theorem famOk_iff {h : Hd} {l : List Pt} : famOk h l = true ↔ nameOk h.n = true ∧ kindOk h.k = true ∧ valueOk h.u = true ∧ valueOk h.h = true ∧ (∀ p ∈ l, ptOk h.k p = true) ∧ StrictP l := by
  unfold famOk
  rw [Bool.and_eq_true, Bool.and_eq_true, Bool.and_eq_true, Bool.and_eq_true, Bool.and_eq_true, List.all_eq_true, decide_eq_true_iff]
  exact ⟨fun ⟨⟨⟨⟨⟨a, b⟩, c⟩, d⟩, e⟩, f⟩ => ⟨a, b, c, d, e, f⟩, fun ⟨a, b, c, d, e, f⟩ => ⟨⟨⟨⟨⟨a, b⟩, c⟩, d⟩, e⟩, f⟩⟩
theorem famOk_put {x y : Fp} (hx : famOk x.1 x.2 = true) (hy : famOk y.1 y.2 = true) (hk : x.1.k = y.1.k) : famOk (putP x y).1 (putP x y).2 = true := by
  obtain ⟨a, b, c, d, e, f⟩ := famOk_iff.1 hx
  obtain ⟨a', b', c', d', e', f'⟩ := famOk_iff.1 hy
  refine famOk_iff.2 ⟨a, b, ?_, ?_, fun p hp => ?_, mrg_strict tp_cmpP snd_hg f⟩
  · show valueOk (orS y.1.u x.1.u) = true
    unfold orS; split
    · exact c
    · exact c'
  · show valueOk (orS y.1.h x.1.h) = true
    unfold orS; split
    · exact d
    · exact d'
  · rcases mrgP_from f f' hp with h | h
    · exact e p h
    · show ptOk x.1.k p = true
      rw [hk]; exact e' p h
/-- b, and behind it what a has besides, sorted: both together -/
theorem psrt_rep {a b : List Pt} (ha : StrictP a) (hb : StrictP b) : psrt (b ++ a.filter fun p => (look cmpP b p).isNone) = some (mrgP a b) := by
  have hn : NdT cmpP (b ++ a.filter fun p => (look cmpP b p).isNone) := by
    refine List.pairwise_append.2 ⟨strictT_nd hb, (strictT_nd ha).filter _, fun y hy x hx e => ?_⟩
    have h1 := (List.mem_filter.1 hx).2
    rw [Option.isNone_iff_eq_none] at h1
    exact look_none.1 h1 y hy e
  have hs := mrg_strict tp_cmpP snd_hg (m := b) ha
  refine psrt_is (look_perm tp_cmpP (strictT_nd hs) hn fun k => ?_) hs
  rw [mrg_look tp_cmpP snd_hg k ha (strictT_nd hb), look_append]
  cases hy : look cmpP b k with
  | some y => cases look cmpP a k <;> rfl
  | none =>
    rw [comb_none, Option.none_or]
    cases hx : look cmpP a k with
    | none =>
      symm
      exact look_none.2 fun z hz => look_none.1 hx z (List.mem_filter.1 hz).1
    | some x =>
      symm
      refine look_mem tp_cmpP ((strictT_nd ha).filter _) (List.mem_filter.2 ⟨(look_some hx).1, ?_⟩) (look_some hx).2
      rw [look_congr tp_cmpP (look_some hx).2, hy]; rfl

end Go.Proofs.YtjeefgamkoeiaaaGreatDoor

/- Families and batches put together, in plain words: what may be, what is told, and in whatever grouping. -/
set_option maxRecDepth 100000
set_option linter.unusedVariables false
set_option linter.unusedSimpArgs false
namespace Go.Proofs.YtjeefgamkoeiaaaGreatDoor
open Dc

theorem cmpF_zero {x y : Fp} : cmpF x y = 0 ↔ x.1.n = y.1.n := cb_zero _ _
/-- families of one name are of one kind -/
def agreeF (L : List Fp) : Prop := ∀ x ∈ L, ∀ y ∈ L, cmpF x y = 0 → x.1.k = y.1.k
/-- z's name and kind are those of one of S -/
def kin (S : List Fp) (z : Fp) : Prop := ∃ x ∈ S, cmpF z x = 0 ∧ z.1.k = x.1.k
theorem kin_self {S : List Fp} {z : Fp} (h : z ∈ S) : kin S z := ⟨z, h, tp_cmpF.refl z, rfl⟩
theorem agree_kin {S T : List Fp} (h : ∀ z ∈ T, kin S z) (ha : agreeF S) : agreeF T := fun x hx y hy e => by
  obtain ⟨x', h1, h2, h3⟩ := h x hx
  obtain ⟨y', h4, h5, h6⟩ := h y hy
  have a := tp_cmpF.cong h2 y
  have b := tp_cmpF.cong' h5 x'
  rw [h3, h6]
  exact ha x' h1 y' h4 (by omega)
theorem agree_sub {S T : List Fp} (h : ∀ z ∈ T, z ∈ S) (ha : agreeF S) : agreeF T := agree_kin (fun z hz => kin_self (h z hz)) ha
theorem ins_kin {y z : Fp} {l : List Fp} (h : z ∈ ins cmpF putP y l) : kin (l ++ [y]) z := by
  rcases ins_mem h with h | rfl | ⟨x, hx, e, rfl⟩
  · exact kin_self (List.mem_append_left _ h)
  · exact kin_self (by simp)
  · exact ⟨x, List.mem_append_left _ hx, tp_cmpF.refl x, rfl⟩
theorem mrg_kin : ∀ {L l : List Fp} {z : Fp}, z ∈ mrgF l L → kin (l ++ L) z
  | [], l, z, h => kin_self (by rw [List.append_nil]; exact h)
  | y :: L, l, z, h => by
    obtain ⟨x, hx, e, k⟩ := mrg_kin (L := L) (l := ins cmpF putP y l) h
    have hk : kin (l ++ y :: L) x := by
      rcases List.mem_append.1 hx with hx | hx
      · obtain ⟨u, hu, e2, k2⟩ := ins_kin hx
        refine ⟨u, ?_, e2, k2⟩
        rcases List.mem_append.1 hu with hu | hu
        · exact List.mem_append_left _ hu
        · rw [List.mem_singleton.1 hu]; simp
      · exact kin_self (by simp [hx])
    obtain ⟨u, hu, e2, k2⟩ := hk
    exact ⟨u, hu, by have := tp_cmpF.zero e u; omega, by rw [k, k2]⟩
theorem mrg_famOk : ∀ {L l : List Fp}, (∀ x ∈ l ++ L, famOk x.1 x.2 = true) → agreeF (l ++ L) → ∀ z ∈ mrgF l L, famOk z.1 z.2 = true
  | [], l, h, _ => fun z hz => h z (by rw [List.append_nil]; exact hz)
  | y :: L, l, h, ha => by
    refine mrg_famOk (L := L) (l := ins cmpF putP y l) (fun x hx => ?_) (agree_kin (fun z hz => ?_) ha)
    · rcases List.mem_append.1 hx with hx | hx
      · rcases ins_mem hx with hx | rfl | ⟨v, hv, e, rfl⟩
        · exact h x (List.mem_append_left _ hx)
        · exact h x (by simp)
        · exact famOk_put (h v (List.mem_append_left _ hv)) (h y (by simp)) (ha v (List.mem_append_left _ hv) y (by simp) e)
      · exact h x (by simp [hx])
    · rcases List.mem_append.1 hz with hz | hz
      · obtain ⟨u, hu, e2, k2⟩ := ins_kin hz
        refine ⟨u, ?_, e2, k2⟩
        rcases List.mem_append.1 hu with hu | hu
        · exact List.mem_append_left _ hu
        · rw [List.mem_singleton.1 hu]; simp
      · exact kin_self (by simp [hz])
theorem nPts_cons (x : Fp) (l : List Fp) : nPts (x :: l) = x.2.length + nPts l := by unfold nPts; simp
theorem nPts_ins (y : Fp) : ∀ l : List Fp, nPts l ≤ nPts (ins cmpF putP y l)
  | [] => Nat.zero_le _
  | x :: l => by
    have := nPts_ins y l
    rw [ins]
    split
    · rw [nPts_cons, nPts_cons]; omega
    · split
      · rw [nPts_cons, nPts_cons]
        have h : x.2.length ≤ (putP x y).2.length := (mrg_len (f := cmpP) (g := snd2) y.2 x.2).1
        omega
      · rw [nPts_cons y]; omega
theorem mrgF_up : ∀ (L l : List Fp), l.length ≤ (mrgF l L).length ∧ nPts l ≤ nPts (mrgF l L)
  | [], l => ⟨Nat.le_refl _, Nat.le_refl _⟩
  | y :: L, l => by
    have h1 := mrgF_up L (ins cmpF putP y l)
    have h2 := (ins_len (f := cmpF) (g := putP) y l).1
    have h3 := nPts_ins y l
    show l.length ≤ (mrgF (ins cmpF putP y l) L).length ∧ nPts l ≤ nPts (mrgF (ins cmpF putP y l) L)
    omega
theorem mrgF_strict {l : List Fp} (h : StrictT cmpF l) (L : List Fp) : StrictT cmpF (mrgF l L) := mrg_strict tp_cmpF put_hg h
theorem mrgF_nil {l : List Fp} (h : StrictT cmpF l) : mrgF [] l = l := mrg_nil_l tp_cmpF put_hg h

/-- a batch as plain data -/
abbrev Bp := List UInt8 × List Fp
/-- all families of these batches, one behind the other -/
def flat (l : List Bp) : List Fp := l.flatMap (·.2)
theorem flat_cons (b : Bp) (l : List Bp) : flat (b :: l) = b.2 ++ flat l := rfl
theorem flat_append (l m : List Bp) : flat (l ++ m) = flat l ++ flat m := List.flatMap_append
theorem flat_mem {l : List Bp} {x : Fp} : x ∈ flat l ↔ ∃ b ∈ l, x ∈ b.2 := List.mem_flatMap
/-- all families put together -/
abbrev allF (L : List Fp) : List Fp := mrgF [] L
theorem allF_strict (L : List Fp) : StrictT cmpF (allF L) := mrgF_strict List.Pairwise.nil L
/-- the first one's tenant -/
def ten : List Bp → List UInt8
  | [] => []
  | b :: _ => b.1
open Classical in
/-- why these batches can't be put together, whatever their size -/
noncomputable def mRef (l : List Bp) : Int := if ∀ b ∈ l, chk b.1 b.2 = 0 then (if ∀ b ∈ l, b.1 = ten l then (if agreeF (flat l) then 0 else 13) else 18) else 19
open Classical in
/-- Merge's number -/
noncomputable def mErr (l : List Bp) : Int := if l = [] then 0 else if mRef l = 0 then chk (ten l) (allF (flat l)) else mRef l
open Classical in
noncomputable def mT (l : List Bp) : List UInt8 := if mErr l = 0 then ten l else []
open Classical in
noncomputable def mF (l : List Bp) : List Fp := if mErr l = 0 then allF (flat l) else []
theorem mRef_zero {l : List Bp} : mRef l = 0 ↔ (∀ b ∈ l, chk b.1 b.2 = 0) ∧ (∀ b ∈ l, b.1 = ten l) ∧ agreeF (flat l) := by
  unfold mRef
  constructor
  · intro h
    split at h
    · split at h
      · split at h
        · exact ⟨‹_›, ‹_›, ‹_›⟩
        · exact absurd h (by decide)
      · exact absurd h (by decide)
    · exact absurd h (by decide)
  · rintro ⟨h1, h2, h3⟩
    rw [if_pos h1, if_pos h2, if_pos h3]
theorem mRef_19 {l : List Bp} (h : ¬ ∀ b ∈ l, chk b.1 b.2 = 0) : mRef l = 19 := by unfold mRef; rw [if_neg h]
theorem mRef_18 {l : List Bp} (h : ∀ b ∈ l, chk b.1 b.2 = 0) (h2 : ¬ ∀ b ∈ l, b.1 = ten l) : mRef l = 18 := by unfold mRef; rw [if_pos h, if_neg h2]
theorem mRef_13 {l : List Bp} (h : ∀ b ∈ l, chk b.1 b.2 = 0) (h2 : ∀ b ∈ l, b.1 = ten l) (h3 : ¬ agreeF (flat l)) : mRef l = 13 := by unfold mRef; rw [if_pos h, if_pos h2, if_neg h3]
theorem mErr_ref {l : List Bp} (h : mRef l ≠ 0) (h0 : l ≠ []) : mErr l = mRef l := by unfold mErr; rw [if_neg h0, if_neg h]
theorem mErr_all {l : List Bp} (h : mRef l = 0) (h0 : l ≠ []) : mErr l = chk (ten l) (allF (flat l)) := by unfold mErr; rw [if_neg h0, if_pos h]
theorem mErr_zero {l : List Bp} (h0 : l ≠ []) : mErr l = 0 ↔ mRef l = 0 ∧ chk (ten l) (allF (flat l)) = 0 := by
  by_cases h : mRef l = 0
  · rw [mErr_all h h0]; exact ⟨fun k => ⟨h, k⟩, fun k => k.2⟩
  · rw [mErr_ref h h0]; exact ⟨fun k => absurd k h, fun k => absurd k.1 h⟩
theorem mErr_nil : mErr [] = 0 := by unfold mErr; rw [if_pos rfl]
theorem mT_good {l : List Bp} (h : mErr l = 0) : mT l = ten l := by unfold mT; rw [if_pos h]
theorem mF_good {l : List Bp} (h : mErr l = 0) : mF l = allF (flat l) := by unfold mF; rw [if_pos h]
theorem mT_bad {l : List Bp} (h : mErr l ≠ 0) : mT l = [] := by unfold mT; rw [if_neg h]
theorem mF_bad {l : List Bp} (h : mErr l ≠ 0) : mF l = [] := by unfold mF; rw [if_neg h]
theorem chk_parts {b : Bp} (h : chk b.1 b.2 = 0) : StrictT cmpF b.2 ∧ (∀ x ∈ b.2, famOk x.1 x.2 = true) ∧ tenOk b.1 = true ∧ b.2.length ≤ 30 ∧ nPts b.2 ≤ 120 := by
  obtain ⟨h1, h2, h3⟩ := chk_zero h
  obtain ⟨a, b, c⟩ := batOk_iff.1 h1
  exact ⟨c, b, a, h2, h3⟩
theorem chk_size {t : List UInt8} {l : List Fp} (h : batOk t l = true) : chk t l = if 30 < l.length ∨ 120 < nPts l then 14 else 0 := by unfold chk; rw [if_pos h]
/-- what comes of batches that can be put together is one but for its size -/
theorem all_ok {l : List Bp} (h : mRef l = 0) (h0 : l ≠ []) {L : List Fp} (hL : ∀ x ∈ L, x ∈ flat l) : batOk (ten l) (allF L) = true := by
  obtain ⟨h1, h2, h3⟩ := mRef_zero.1 h
  refine batOk_iff.2 ⟨?_, mrg_famOk (fun x hx => ?_) (agree_sub (fun x hx => hL x hx) h3), allF_strict _⟩
  · cases l with
    | nil => exact absurd rfl h0
    | cons b l => exact (chk_parts (h1 b List.mem_cons_self)).2.2.1
  · obtain ⟨b, hb, hx⟩ := flat_mem.1 (hL x hx)
    exact (chk_parts (h1 b hb)).2.1 x hx
theorem chk_up {t : List UInt8} {l m : List Fp} (hl : batOk t l = true) (hm : batOk t m = true) (h1 : l.length ≤ m.length) (h2 : nPts l ≤ nPts m) (h : chk t l ≠ 0) : chk t m = 14 := by
  rw [chk_size hl] at h
  rw [chk_size hm]
  by_cases c : 30 < l.length ∨ 120 < nPts l
  · rw [if_pos (by omega)]
  · rw [if_neg c] at h; exact absurd rfl h
/-- too large at some batch is too large at the end -/
theorem chk_early {l : List Bp} {L M : List Fp} (h : mRef l = 0) (h0 : l ≠ []) (hL : flat l = L ++ M) (hc : chk (ten l) (allF L) ≠ 0) : mErr l = 14 ∧ chk (ten l) (allF L) = 14 := by
  have b1 := all_ok h h0 (L := L) (fun x hx => by rw [hL]; exact List.mem_append_left _ hx)
  have b2 := all_ok h h0 (L := flat l) (fun x hx => hx)
  have hu := mrgF_up M (allF L)
  rw [show mrgF (allF L) M = allF (flat l) by rw [hL]; exact (mrg_append [] L M).symm] at hu
  refine ⟨?_, chk_up b1 b1 (Nat.le_refl _) (Nat.le_refl _) hc⟩
  rw [mErr_all h h0]
  exact chk_up b1 b2 hu.1 hu.2 hc
theorem allF_cons {b : Bp} (h : StrictT cmpF b.2) (l : List Bp) : allF (flat (b :: l)) = mrgF b.2 (flat l) := by
  rw [allF, mrgF, flat_cons, mrg_append]
  have := mrgF_nil h
  rw [mrgF] at this
  rw [this]

theorem fam_strict {x : Fp} (h : famOk x.1 x.2 = true) : StrictP x.2 := famOk_strict h
theorem kin_left {S T : List Fp} {x : Fp} (h : kin S x) : kin (S ++ T) x := by obtain ⟨y, hy, h⟩ := h; exact ⟨y, List.mem_append_left _ hy, h⟩
theorem kin_right {S T : List Fp} {x : Fp} (h : kin T x) : kin (S ++ T) x := by obtain ⟨y, hy, h⟩ := h; exact ⟨y, List.mem_append_right _ hy, h⟩
theorem chk_ps {b : Bp} (h : chk b.1 b.2 = 0) : ∀ x ∈ b.2, StrictP x.2 := fun x hx => fam_strict ((chk_parts h).2.1 x hx)
end Go.Proofs.YtjeefgamkoeiaaaGreatDoor

/- One family more put together with what is there: what each step of package merge's together needs, in plain words. -/
set_option maxRecDepth 100000
set_option linter.unusedVariables false
set_option linter.unusedSimpArgs false
namespace Go.Proofs.YtjeefgamkoeiaaaGreatDoor
open Dc

theorem nPts_ins_le (y : Fp) : ∀ l : List Fp, nPts (ins cmpF putP y l) ≤ nPts l + y.2.length
  | [] => by rw [ins, nPts_cons, nPts_nil]; omega
  | x :: l => by
    have := nPts_ins_le y l
    rw [ins]
    split
    · rw [nPts_cons, nPts_cons]; omega
    · split
      · rw [nPts_cons, nPts_cons]
        have h : (putP x y).2.length ≤ x.2.length + y.2.length := (mrg_len (f := cmpP) (g := snd2) y.2 x.2).2
        omega
      · rw [nPts_cons y]; omega
theorem nPts_mrg_le : ∀ (m l : List Fp), nPts (mrgF l m) ≤ nPts l + nPts m
  | [], l => Nat.le_add_right _ _
  | y :: m, l => by
    have h1 := nPts_mrg_le m (ins cmpF putP y l)
    have h2 := nPts_ins_le y l
    rw [nPts_cons]
    show nPts (mrgF (ins cmpF putP y l) m) ≤ _
    omega
theorem nPts_mem {l : List Fp} {x : Fp} (h : x ∈ l) : x.2.length ≤ nPts l := by
  induction l with
  | nil => cases h
  | cons y l ih =>
    rw [nPts_cons]
    rcases List.mem_cons.1 h with rfl | h
    · omega
    · have := ih h; omega
theorem nPts_sub {l : List Fp} (k : Nat) : nPts (l.take k) ≤ nPts l := by
  have h : nPts (l.take k) + nPts (l.drop k) = nPts l := by
    unfold nPts
    rw [← List.sum_append, ← List.map_append, List.take_append_drop]
  omega
/-- what may be put together with A -/
structure TogOk (A B : List Fp) : Prop where
  s : StrictT cmpF A
  ok : ∀ x ∈ A ++ B, famOk x.1 x.2 = true
  ag : agreeF (A ++ B)
  nA : A.length ≤ 400
  nB : B.length ≤ 400
  pA : nPts A ≤ 200
  pB : nPts B ≤ 200
theorem TogOk.take {A B : List Fp} (h : TogOk A B) (k : Nat) : ∀ x ∈ A ++ B.take k, x ∈ A ++ B := fun x hx => by
  rcases List.mem_append.1 hx with h | h
  · exact List.mem_append_left _ h
  · exact List.mem_append_right _ (List.mem_of_mem_take h)
theorem TogOk.strict {A B : List Fp} (h : TogOk A B) (k : Nat) : StrictT cmpF (mrgF A (B.take k)) := mrgF_strict h.s _
theorem TogOk.fams {A B : List Fp} (h : TogOk A B) (k : Nat) : ∀ z ∈ mrgF A (B.take k), famOk z.1 z.2 = true := mrg_famOk (fun x hx => h.ok x (h.take k x hx)) (agree_sub (h.take k) h.ag)
theorem TogOk.len {A B : List Fp} (h : TogOk A B) (k : Nat) : (mrgF A (B.take k)).length ≤ 800 := by
  have h1 : (mrgF A (B.take k)).length ≤ A.length + (B.take k).length := (mrg_len _ _).2
  have h2 := h.nA
  have h3 := h.nB
  rw [List.length_take] at h1
  omega
theorem TogOk.pts {A B : List Fp} (h : TogOk A B) (k : Nat) : ∀ z ∈ mrgF A (B.take k), z.2.length ≤ 400 := fun z hz => by
  have h1 := nPts_mem hz
  have h2 := nPts_mrg_le (B.take k) A
  have h3 := nPts_sub (l := B) k
  have h4 := h.pA
  have h5 := h.pB
  omega
theorem TogOk.same {A B : List Fp} (h : TogOk A B) {k : Nat} {x y : Fp} (hx : x ∈ mrgF A (B.take k)) (hy : y ∈ B) (e : cmpF x y = 0) : x.1.n = y.1.n ∧ x.1.k = y.1.k ∧ famOk x.1 x.2 = true ∧ famOk y.1 y.2 = true := by
  refine ⟨cmpF_zero.1 e, ?_, h.fams k x hx, h.ok y (List.mem_append_right _ hy)⟩
  obtain ⟨u, hu, e2, k2⟩ := mrg_kin hx
  rw [k2]
  exact h.ag u (h.take k u hu) y (List.mem_append_right _ hy) (by have := tp_cmpF.zero e2 y; omega)
theorem mrg_step {A B : List Fp} {k : Nat} {y : Fp} (h : B[k]? = some y) : mrgF A (B.take (k + 1)) = ins cmpF putP y (mrgF A (B.take k)) := by
  obtain ⟨hk, rfl⟩ := List.getElem?_eq_some_iff.1 h
  rw [List.take_succ_eq_append_getElem hk]
  exact mrg_snoc _ _ _
theorem goodL_len {l : List Lb} (h : goodL l = true) : l.length ≤ 8 := by
  unfold goodL at h
  rw [Bool.and_eq_true] at h
  exact of_decide_eq_true h.1
theorem ptOk_len {k : Int} {p : Pt} (h : ptOk k p = true) : p.l.length ≤ 8 := by
  unfold ptOk at h
  simp only [Bool.and_eq_true] at h
  exact goodL_len h.1.1.1.1.1.2
theorem famOk_lab {h : Hd} {l : List Pt} (k : famOk h l = true) : ∀ p ∈ l, p.l.length ≤ 1000 := fun p hp => by
  have := ptOk_len ((famOk_iff.1 k).2.2.2.2.1 p hp)
  omega

end Go.Proofs.YtjeefgamkoeiaaaGreatDoor
