/- Names of which two become one, in plain words: the least pair (ClashOf), as the document's reference finds it (collO), as the code finds it (back, over the names sorted, each once). -/
import Derived.Test.YtgdhfmcipaoapaaDoorGrd
import Derived.Sort.Walk0
import Derived.Lib.SlicesCompact
set_option maxRecDepth 100000
set_option linter.unusedVariables false
set_option linter.unusedSimpArgs false
namespace Go.Proofs.YtgdhfmcipaoapaaDoor
namespace Co

abbrev Bs := List UInt8
theorem lt_irrefl (a : Bs) : ¬ a < a := List.lt_irrefl a
theorem lt_trans {a b c : Bs} (h : a < b) (k : b < c) : a < c := List.lt_trans h k
theorem lt_asymm {a b : Bs} (h : a < b) : ¬ b < a := fun k => lt_irrefl a (lt_trans h k)
theorem lt_tri (a b : Bs) : a < b ∨ a = b ∨ b < a := by
  by_cases h : a < b
  · exact Or.inl h
  · by_cases k : b < a
    · exact Or.inr (Or.inr k)
    · exact Or.inr (Or.inl (List.le_antisymm (List.not_lt.1 k) (List.not_lt.1 h)))
/-- is pair c ahead of pair d -/
def ahead (c d : Bs × Bs) : Prop := c.1 < d.1 ∨ (c.1 = d.1 ∧ c.2 < d.2)
instance (c d : Bs × Bs) : Decidable (ahead c d) := by unfold ahead; infer_instance
theorem ahead_irrefl (c : Bs × Bs) : ¬ ahead c c := fun h => by
  rcases h with h | h
  · exact lt_irrefl _ h
  · exact lt_irrefl _ h.2
theorem ahead_trans {a b c : Bs × Bs} (h : ahead a b) (k : ahead b c) : ahead a c := by
  rcases h with h | ⟨e, h⟩
  · rcases k with k | ⟨f, k⟩
    · exact Or.inl (lt_trans h k)
    · exact Or.inl (by rw [← f]; exact h)
  · rcases k with k | ⟨f, k⟩
    · exact Or.inl (by rw [e]; exact k)
    · exact Or.inr ⟨e.trans f, lt_trans h k⟩
theorem ahead_tri (a b : Bs × Bs) : ahead a b ∨ a = b ∨ ahead b a := by
  rcases lt_tri a.1 b.1 with h | h | h
  · exact Or.inl (Or.inl h)
  · rcases lt_tri a.2 b.2 with k | k | k
    · exact Or.inl (Or.inr ⟨h, k⟩)
    · exact Or.inr (Or.inl (Prod.ext h k))
    · exact Or.inr (Or.inr (Or.inr ⟨h.symm, k⟩))
  · exact Or.inr (Or.inr (Or.inl h))
/-- do the two names of a pair clash -/
def clash (f : Bs → Bs) (c : Bs × Bs) : Prop := c.1 < c.2 ∧ f c.1 = f c.2
instance (f : Bs → Bs) (c : Bs × Bs) : Decidable (clash f c) := by unfold clash; infer_instance
/-- the first clash among the pairs of S -/
def ClashOf (f : Bs → Bs) (S : Bs × Bs → Prop) : Option (Bs × Bs) → Prop
  | none => ∀ c, S c → ¬ clash f c
  | some d => S d ∧ clash f d ∧ ∀ c, S c → clash f c → ¬ ahead c d
theorem clash_one {f : Bs → Bs} {S T : Bs × Bs → Prop} (hST : ∀ c, S c ↔ T c) : ∀ {o o' : Option (Bs × Bs)}, ClashOf f S o → ClashOf f T o' → o = o'
  | none, none, _, _ => rfl
  | none, some d, h, k => absurd k.2.1 (h d ((hST d).2 k.1))
  | some d, none, h, k => absurd h.2.1 (k d ((hST d).1 h.1))
  | some d, some e, h, k => by
    rcases ahead_tri d e with q | q | q
    · exact absurd q (k.2.2 d ((hST d).1 h.1) h.2.1)
    · rw [q]
    · exact absurd q (h.2.2 e ((hST e).2 k.1) k.2.1)

/-- is it ahead of what was found -/
def firstO : Option (Bs × Bs) → Bs × Bs → Bool
  | none, _ => true
  | some d, c => decide (ahead c d)
/-- the reference: one pair more -/
def step (f : Bs → Bs) (o : Option (Bs × Bs)) (c : Bs × Bs) : Option (Bs × Bs) := if clash f c ∧ firstO o c = true then some c else o
theorem step_of {f : Bs → Bs} {S : Bs × Bs → Prop} {o : Option (Bs × Bs)} (h : ClashOf f S o) (c : Bs × Bs) : ClashOf f (fun x => S x ∨ x = c) (step f o c) := by
  unfold step
  cases o with
  | none =>
    split
    · rename_i hc
      exact ⟨Or.inr rfl, hc.1, fun x hx hcx => by
        rcases hx with hx | rfl
        · exact absurd hcx (h x hx)
        · exact ahead_irrefl _⟩
    · rename_i hc
      intro x hx
      rcases hx with hx | rfl
      · exact h x hx
      · exact fun k => hc ⟨k, rfl⟩
  | some d =>
    split
    · rename_i hc
      exact ⟨Or.inr rfl, hc.1, fun x hx hcx => by
        rcases hx with hx | rfl
        · exact fun k => h.2.2 x hx hcx (ahead_trans k (of_decide_eq_true hc.2))
        · exact ahead_irrefl _⟩
    · rename_i hc
      exact ⟨Or.inl h.1, h.2.1, fun x hx hcx => by
        rcases hx with hx | rfl
        · exact h.2.2 x hx hcx
        · exact fun k => hc ⟨hcx, decide_eq_true k⟩⟩
theorem fold_of {f : Bs → Bs} : ∀ (l : List (Bs × Bs)) {S : Bs × Bs → Prop} {o : Option (Bs × Bs)}, ClashOf f S o → ClashOf f (fun x => S x ∨ x ∈ l) (l.foldl (step f) o)
  | [], S, o, h => by
    have e : (fun x => S x ∨ x ∈ ([] : List (Bs × Bs))) = S := by funext x; simp
    rw [e]; exact h
  | c :: l, S, o, h => by
    have := fold_of l (step_of h c)
    have e : (fun x => (S x ∨ x = c) ∨ x ∈ l) = (fun x => S x ∨ x ∈ c :: l) := by funext x; simp [or_assoc]
    rw [e] at this
    exact this
/-- the pairs that were looked at ahead of the k-th of the i-th -/
def seen (L : List Bs) (i k : Nat) : List (Bs × Bs) := (L.take i).flatMap (fun a => L.map (fun b => (a, b))) ++ (L.take k).map (fun b => (L.getD i [], b))
theorem seen_put (L : List Bs) (i k : Nat) (h : k < L.length) : seen L i (k + 1) = seen L i k ++ [(L.getD i [], L.getD k [])] := by
  unfold seen
  have e : L.getD k [] = L[k] := by rw [List.getD_eq_getElem?_getD, List.getElem?_eq_getElem h]; rfl
  rw [List.take_succ_eq_append_getElem h, List.map_append, ← List.append_assoc, e]
  rfl
theorem seen_next (L : List Bs) (i : Nat) (h : i < L.length) : seen L (i + 1) 0 = seen L i L.length := by
  unfold seen
  have e : L.getD i [] = L[i] := by rw [List.getD_eq_getElem?_getD, List.getElem?_eq_getElem h]; rfl
  rw [List.take_succ_eq_append_getElem h, List.flatMap_append, List.take_zero, List.take_length, e]
  simp
def collTo (f : Bs → Bs) (L : List Bs) (i k : Nat) : Option (Bs × Bs) := (seen L i k).foldl (step f) none
theorem collTo_put (f : Bs → Bs) (L : List Bs) (i k : Nat) (h : k < L.length) : collTo f L i (k + 1) = step f (collTo f L i k) (L.getD i [], L.getD k []) := by
  unfold collTo; rw [seen_put L i k h, List.foldl_append]; rfl
theorem collTo_next (f : Bs → Bs) (L : List Bs) (i : Nat) (h : i < L.length) : collTo f L (i + 1) 0 = collTo f L i L.length := by
  unfold collTo; rw [seen_next L i h]
/-- which two of the names clash -/
def collO (f : Bs → Bs) (L : List Bs) : Option (Bs × Bs) := collTo f L L.length 0
theorem collO_of (f : Bs → Bs) (L : List Bs) : ClashOf f (fun c => c.1 ∈ L ∧ c.2 ∈ L) (collO f L) := by
  have h : ClashOf f (fun _ => False) none := fun c hc => hc.elim
  have := fold_of (seen L L.length 0) h
  have e : (fun x => False ∨ x ∈ seen L L.length 0) = (fun c => c.1 ∈ L ∧ c.2 ∈ L) := by
    funext x
    obtain ⟨a, b⟩ := x
    unfold seen
    simp
  rw [e] at this
  exact this
theorem collO_same (f : Bs → Bs) {L M : List Bs} (h : ∀ x, x ∈ L ↔ x ∈ M) : collO f L = collO f M :=
  clash_one (fun c => by rw [h, h]) (collO_of f L) (collO_of f M)

/-- the code: from the last name on -/
def back (f : Bs → Bs) : List Bs → Option (Bs × Bs)
  | [] => none
  | s :: r => match r.find? (fun t => decide (f t = f s)) with | some t => some (s, t) | none => back f r
theorem back_of (f : Bs → Bs) : ∀ (S : List Bs), S.Pairwise (· < ·) → ClashOf f (fun c => c.1 ∈ S ∧ c.2 ∈ S) (back f S)
  | [], _ => fun c hc => by simp at hc
  | s :: r, hp => by
    obtain ⟨h1, h2⟩ := List.pairwise_cons.1 hp
    have ih := back_of f r h2
    unfold back
    cases hf : r.find? (fun t => decide (f t = f s)) with
    | some t =>
      have ht := List.mem_of_find?_eq_some hf
      have he : f t = f s := by simpa using List.find?_some hf
      obtain ⟨a, b, hab, hnot⟩ := (List.find?_eq_some_iff_append.1 hf).2
      refine ⟨⟨List.mem_cons_self, List.mem_cons_of_mem _ ht⟩, ⟨h1 t ht, he.symm⟩, fun c hc hcl hah => ?_⟩
      obtain ⟨x, y⟩ := c
      rcases hah with hah | ⟨hx, hy⟩
      · rcases List.mem_cons.1 hc.1 with rfl | hx
        · exact lt_irrefl _ hah
        · exact lt_asymm hah (h1 x hx)
      · obtain rfl : x = s := hx
        have hyr : y ∈ r := by
          rcases List.mem_cons.1 hc.2 with e | h
          · exact absurd hcl.1 (by rw [show y = x from e]; exact lt_irrefl x)
          · exact h
        rw [hab] at hyr h2
        rcases List.mem_append.1 hyr with hy1 | hy1
        · have := hnot y hy1
          simp [hcl.2] at this
        · rcases List.mem_cons.1 hy1 with rfl | hy2
          · exact lt_irrefl _ hy
          · exact lt_asymm hy ((List.pairwise_cons.1 (List.pairwise_append.1 h2).2.1).1 y hy2)
    | none =>
      have hn : ∀ t ∈ r, f t ≠ f s := fun t ht => by simpa using List.find?_eq_none.1 hf t ht
      have hno : ∀ c : Bs × Bs, c.1 ∈ s :: r ∧ c.2 ∈ s :: r → clash f c → c.1 ∈ r ∧ c.2 ∈ r := fun c hc hcl => by
        obtain ⟨x, y⟩ := c
        rcases List.mem_cons.1 hc.1 with e | hx
        · obtain rfl : x = s := e
          rcases List.mem_cons.1 hc.2 with e | hy
          · exact absurd hcl.1 (by rw [show y = x from e]; exact lt_irrefl x)
          · exact absurd hcl.2.symm (hn y hy)
        · rcases List.mem_cons.1 hc.2 with e | hy
          · obtain rfl : y = s := e
            exact absurd (h1 x hx) (lt_asymm hcl.1)
          · exact ⟨hx, hy⟩
      show ClashOf f (fun c => c.1 ∈ s :: r ∧ c.2 ∈ s :: r) (back f r)
      cases hb : back f r with
      | none => rw [hb] at ih; exact fun c hc hcl => ih c (hno c hc hcl) hcl
      | some d =>
        rw [hb] at ih
        exact ⟨⟨List.mem_cons_of_mem _ ih.1.1, List.mem_cons_of_mem _ ih.1.2⟩, ih.2.1, fun c hc hcl => ih.2.2 c (hno c hc hcl) hcl⟩

/-- sorted names, each once -/
theorem up_rises (d : Array Bs) (hs : ∀ i j, i < j → j < d.size → ¬ d[j]! < d[i]!) : ∀ m, m ≤ d.size →
    (Lib.compactUpTo d m).Pairwise (· < ·) ∧ (∀ x, x ∈ Lib.compactUpTo d m ↔ ∃ j, j < m ∧ x = d[j]!) ∧ (0 < m → d[m - 1]! ∈ Lib.compactUpTo d m)
  | 0, _ => ⟨List.Pairwise.nil, fun x => ⟨fun h => by simp [Lib.compactUpTo] at h, fun ⟨j, h, _⟩ => absurd h (by omega)⟩, fun h => absurd h (by omega)⟩
  | m + 1, hm => by
    obtain ⟨h1, h2, h3⟩ := up_rises d hs m (by omega)
    rw [Lib.compactUpTo_succ]
    cases hk : Lib.keeps d m with
    | true =>
      simp only [if_pos]
      have hkk : m = 0 ∨ d[m]! ≠ d[m - 1]! := by simpa [Lib.keeps] using hk
      have hall : ∀ x ∈ Lib.compactUpTo d m, x < d[m]! := fun x hx => by
        obtain ⟨j, hj, rfl⟩ := (h2 x).1 hx
        have hne : d[m]! ≠ d[m - 1]! := by
          rcases hkk with e | e
          · omega
          · exact e
        have hl : d[m - 1]! < d[m]! := by
          rcases lt_tri d[m - 1]! d[m]! with q | q | q
          · exact q
          · exact absurd q.symm hne
          · exact absurd q (hs (m - 1) m (by omega) (by omega))
        by_cases e : j = m - 1
        · rw [e]; exact hl
        · rcases lt_tri d[j]! d[m - 1]! with q | q | q
          · exact lt_trans q hl
          · rw [q]; exact hl
          · exact absurd q (hs j (m - 1) (by omega) (by omega))
      refine ⟨List.pairwise_append.2 ⟨h1, List.pairwise_singleton _ _, fun a ha b hb => by rw [List.mem_singleton.1 hb]; exact hall a ha⟩, fun x => ?_, fun _ => by simp⟩
      rw [List.mem_append, h2, List.mem_singleton]
      constructor
      · rintro (⟨j, hj, rfl⟩ | rfl)
        · exact ⟨j, by omega, rfl⟩
        · exact ⟨m, by omega, rfl⟩
      · rintro ⟨j, hj, rfl⟩
        by_cases e : j = m
        · exact Or.inr (by rw [e])
        · exact Or.inl ⟨j, by omega, rfl⟩
    | false =>
      have hkk : m ≠ 0 ∧ d[m]! = d[m - 1]! := by simpa [Lib.keeps] using hk
      have e0 : Lib.compactUpTo d m ++ (if false = true then [d[m]!] else []) = Lib.compactUpTo d m := by simp
      rw [e0]
      refine ⟨h1, fun x => ?_, fun _ => by rw [show m + 1 - 1 = m from rfl, hkk.2]; exact h3 (by omega)⟩
      rw [h2]
      constructor
      · rintro ⟨j, hj, rfl⟩; exact ⟨j, by omega, rfl⟩
      · rintro ⟨j, hj, rfl⟩
        by_cases e : j = m
        · exact ⟨m - 1, by omega, by rw [e, hkk.2]⟩
        · exact ⟨j, by omega, rfl⟩
theorem sort_rises (L : List Bs) : ∀ i j, i < j → j < (L.mergeSort fun x y => decide (x ≤ y)).toArray.size → ¬ (L.mergeSort fun x y => decide (x ≤ y)).toArray[j]! < (L.mergeSort fun x y => decide (x ≤ y)).toArray[i]! := by
  have hp := List.pairwise_mergeSort (le := fun x y : Bs => decide (x ≤ y)) (fun a b c h k => by simp only [decide_eq_true_eq] at *; exact List.le_trans h k) (fun a b => by simp only [Bool.or_eq_true, decide_eq_true_eq]; exact List.le_total a b) L
  intro i j hij hj
  have hj' : j < (L.mergeSort fun x y => decide (x ≤ y)).length := by simpa using hj
  have := List.pairwise_iff_getElem.1 hp i j (by omega) hj' hij
  rw [getElem!_pos _ j (by simpa using hj'), getElem!_pos _ i (by simp; simp at hj'; omega)]
  simp only [decide_eq_true_eq] at this
  simpa using this
def once (L : List Bs) : List Bs := Lib.compactUpTo (L.mergeSort fun x y => decide (x ≤ y)).toArray L.length
theorem once_rises (L : List Bs) : (once L).Pairwise (· < ·) := (up_rises _ (sort_rises L) L.length (by simp)).1
theorem once_mem (L : List Bs) (x : Bs) : x ∈ once L ↔ x ∈ L := by
  unfold once
  rw [(up_rises _ (sort_rises L) L.length (by simp)).2.1 x, ← (List.mergeSort_perm L (fun x y => decide (x ≤ y))).mem_iff, List.mem_iff_getElem]
  constructor
  · rintro ⟨j, hj, rfl⟩
    exact ⟨j, by simpa using hj, by rw [getElem!_pos _ j (by simpa using hj)]; simp⟩
  · rintro ⟨j, hj, rfl⟩
    have hj' : j < L.length := by simpa using hj
    exact ⟨j, hj', by rw [getElem!_pos _ j (by simpa using hj')]; simp⟩
/-- ████ the code's clash is the reference's -/
theorem back_once (f : Bs → Bs) (L : List Bs) : back f (once L) = collO f L :=
  clash_one (fun c => by rw [once_mem, once_mem]) (back_of f _ (once_rises L)) (collO_of f L)

end Co
end Go.Proofs.YtgdhfmcipaoapaaDoor
