/- Rows of structs of k cells: as they came in, as the call owns them; cut, put together, one cell set, sorted. -/
import Derived.Test.YthniemoganoapaaDoorGrd
import Derived.Deep.AppendLies
import Derived.Deep.Slices
import Derived.Maps.AppendAt
import Derived.Laws.AppendOwnNone
import Derived.Lib.SliceRun
set_option maxRecDepth 100000
set_option linter.unusedVariables false
set_option linter.unusedSimpArgs false
namespace Go.Proofs.YthniemoganoapaaDoor
open Go.RowKit Go.ChangeShapes Go.WideShapes Go.Deep

section
variable {α : Type} {enc : α → List Value} {k : Nat}

theorem kc_len (hk : ∀ x, (enc x).length = k) : ∀ l : List α, (l.flatMap enc).length = l.length * k
  | [] => by simp
  | x :: l => by rw [List.flatMap_cons, List.length_append, hk, kc_len hk l, List.length_cons, Nat.add_mul]; omega
theorem kc_get (hk : ∀ x, (enc x).length = k) : ∀ (l : List α) (i j : Nat) (x : α), l[i]? = some x → j < k → (l.flatMap enc)[i * k + j]? = (enc x)[j]?
  | [], _, _, _, h, _ => by simp at h
  | y :: l, 0, j, x, h, hj => by
    obtain rfl : y = x := by simpa using h
    rw [List.flatMap_cons, Nat.zero_mul, Nat.zero_add, List.getElem?_append_left (by rw [hk]; exact hj)]
  | y :: l, i + 1, j, x, h, hj => by
    rw [List.flatMap_cons, List.getElem?_append_right (by rw [hk, Nat.add_mul]; omega), hk, show (i + 1) * k + j - k = i * k + j by rw [Nat.add_mul]; omega]
    exact kc_get hk l i j x (by simpa using h) hj
theorem kc_at (hk : ∀ x, (enc x).length = k) (hp : 0 < k) {l : List α} {j : Nat} {u : Value} (h : (l.flatMap enc)[j]? = some u) : ∃ x, l[j / k]? = some x ∧ (enc x)[j % k]? = some u := by
  have hj : j < l.length * k := by rw [← kc_len hk]; exact (List.getElem?_eq_some_iff.1 h).1
  have hi : j / k < l.length := (Nat.div_lt_iff_lt_mul hp).2 hj
  refine ⟨l[j / k], List.getElem?_eq_getElem hi, ?_⟩
  rw [← kc_get hk l (j / k) (j % k) _ (List.getElem?_eq_getElem hi) (Nat.mod_lt _ hp), Nat.div_add_mod']
  exact h
theorem kc_set (hk : ∀ x, (enc x).length = k) : ∀ (l : List α) (i j : Nat) (x y : α) (u : Value), l[i]? = some x → j < k → enc y = (enc x).set j u → (l.flatMap enc).set (i * k + j) u = (l.set i y).flatMap enc
  | [], _, _, _, _, _, h, _, _ => by simp at h
  | z :: l, 0, j, x, y, u, h, hj, he => by
    obtain rfl : z = x := by simpa using h
    rw [List.flatMap_cons, Nat.zero_mul, Nat.zero_add, List.set_append_left _ _ (by rw [hk]; exact hj), List.set_cons_zero, List.flatMap_cons, he]
  | z :: l, i + 1, j, x, y, u, h, hj, he => by
    rw [List.flatMap_cons, List.set_append_right _ _ (by rw [hk, Nat.add_mul]; omega), hk, show (i + 1) * k + j - k = i * k + j by rw [Nat.add_mul]; omega, List.set_cons_succ, List.flatMap_cons]
    rw [kc_set hk l i j x y u (by simpa using h) hj he]

/-- a slice of structs of k cells -/
def KRow (enc : α → List Value) (k : Nat) (w : World) (v : Value) (l : List α) : Prop :=
  ∃ A cap, v = .slice A l.length cap ∧ l.length ≤ cap ∧ cap ≤ maxLen ∧ (A = none → cap = 0) ∧ (0 < l.length → ∃ b off, A = some ⟨b, off, none⟩ ∧ b < w.heap.size ∧ ∀ i x, l[i]? = some x → ∀ j u, (enc x)[j]? = some u → w.cell? ⟨b, off + i * k + j, none⟩ = some u)
theorem KRow.below {w w' : World} {v : Value} {l : List α} (h : KRow enc k w v l) (hb : Below w.heap.size w w') : KRow enc k w' v l := by
  obtain ⟨A, cap, rfl, h1, h2, hn, h3⟩ := h
  refine ⟨A, cap, rfl, h1, h2, hn, fun h0 => ?_⟩
  obtain ⟨b, off, rfl, hlt, hc⟩ := h3 h0
  exact ⟨b, off, rfl, Nat.lt_of_lt_of_le hlt hb.size, fun i x hx j u hu => (hb.cell (p := ⟨b, off + i * k + j, none⟩) hlt).trans (hc i x hx j u hu)⟩
theorem KRow.nil (enc : α → List Value) (k : Nat) (w : World) : KRow enc k w (.slice none 0 0) [] := ⟨none, 0, rfl, Nat.le_refl _, by unfold maxLen; omega, fun _ => rfl, fun h => absurd h (by simp)⟩
theorem KRow.news {w : World} {b off : Nat} {l : List α} (hk : ∀ x, (enc x).length = k) (hp : 0 < k) (h : ∀ i x, l[i]? = some x → ∀ j u, (enc x)[j]? = some u → w.cell? ⟨b, off + i * k + j, none⟩ = some u) :
    ∀ j u, (l.flatMap enc)[j]? = some u → w.cell? ((⟨b, off, none⟩ : Addr).add j) = some u := fun j u hu => by
  obtain ⟨x, hx, h2⟩ := kc_at hk hp hu
  rw [Go.WideShapes.add_plain, ← h _ _ hx _ _ h2]
  congr 2
  have := Nat.div_add_mod' j k
  omega
/-- a row that the call owns -/
abbrev KOwn (enc : α → List Value) (el k : Nat) (w : World) (base : Nat) (v : Value) (l : List α) : Prop := w.ownsRow base el k v l.length (l.flatMap enc)
theorem KOwn.row {el : Nat} {w : World} {base : Nat} {v : Value} {l : List α} (hk : ∀ x, (enc x).length = k) (h : KOwn enc el k w base v l) : KRow enc k w v l := by
  obtain ⟨hl, h⟩ := h
  rcases h with ⟨rfl, h0⟩ | ⟨g, cap, cur, rfl, hb, hg, hn, hm, hs, ht⟩
  · exact ⟨none, 0, by rw [h0], by omega, by unfold maxLen; omega, fun _ => rfl, fun h => absurd h (by omega)⟩
  · refine ⟨_, cap, rfl, hn, hm, (by rintro ⟨⟩), fun _ => ⟨g, 0, rfl, (Array.getElem?_eq_some_iff.1 hg).1, fun i x hx j u hu => ?_⟩⟩
    have hj : j < k := by rw [← hk x]; exact (List.getElem?_eq_some_iff.1 hu).1
    have hi : i < l.length := (List.getElem?_eq_some_iff.1 hx).1
    have h1 := kc_get hk l i j x hx hj
    have h2 : i * k + j < l.length * k := by
      have := Nat.mul_le_mul_right k (show i + 1 ≤ l.length by omega)
      rw [Nat.add_mul] at this; omega
    rw [cell_of_row w g _ cur _ (0, 0) hg, ← hu, ← h1, ← ht, List.getElem?_take_of_lt h2, Nat.zero_add]; simp
theorem KOwn.nil (enc : α → List Value) (el k : Nat) (w : World) (base : Nat) : KOwn enc el k w base (.slice none 0 0) [] := ⟨by simp, Or.inl ⟨rfl, rfl⟩⟩
theorem KOwn.mono {el : Nat} {w : World} {base base' : Nat} {v : Value} {l : List α} (h : KOwn enc el k w base v l) (hb : base' ≤ base) : KOwn enc el k w base' v l := by
  obtain ⟨hl, h⟩ := h
  refine ⟨hl, ?_⟩
  rcases h with h | ⟨g, cap, cur, rfl, hg, h2⟩
  · exact Or.inl h
  · exact Or.inr ⟨g, cap, cur, rfl, Nat.le_trans hb hg, h2⟩
/-- one cell of an element set -/
theorem KOwn.set {el : Nat} {w : World} {base g cap : Nat} {l : List α} {i j : Nat} {x y : α} {u : Value} (hk : ∀ x, (enc x).length = k) (h : KOwn enc el k w base (.slice (some ⟨g, 0, none⟩) l.length cap) l)
    (hx : l[i]? = some x) (hj : j < k) (he : enc y = (enc x).set j u) : KOwn enc el k (w.setCell ⟨g, i * k + j, none⟩ u) base (.slice (some ⟨g, 0, none⟩) (l.set i y).length cap) (l.set i y) := by
  obtain ⟨hl, h⟩ := h
  refine ⟨kc_len hk _, ?_⟩
  rcases h with ⟨h, _⟩ | ⟨g', cap', cur, he', hb, hg, hn, hm, hs, ht⟩
  · cases h
  · cases he'
    refine Or.inr ⟨g, cap, cur.setIfInBounds (i * k + j) u, rfl, hb, ?_, by rw [List.length_set]; exact hn, hm, by rw [Array.size_setIfInBounds]; exact hs, ?_⟩
    · unfold World.setCell
      simp only [Array.getElem?_modify, if_true, hg]
      rfl
    · rw [List.length_set, Array.toList_setIfInBounds, List.take_set, ht]
      exact kc_set hk l i j x y u hx hj he
theorem KOwn.below {el : Nat} {w w' : World} {base : Nat} {v : Value} {l : List α} (h : KOwn enc el k w base v l) (hb : Below w.heap.size w w') : KOwn enc el k w' base v l := own_below h hb

/-- the types of a slice of structs -/
structure KTy (P : Program) (sl el k bytes : Nat) (z : Value) : Prop where
  under : P.underlying sl = some (.slice el)
  info : (P.info? el).map (fun i => (i.zero, i.size, i.bytes)) = some (some z, k, bytes)
  size : ∀ w, (Go.sizeOf el).run P w = .ok k w
  cells : z.cells.size = k
  pos : 0 < k
  few : bytes ≤ 1000
theorem KTy.elem {P : Program} {sl el k bytes : Nat} {z : Value} (h : KTy P sl el k bytes z) : P.elem sl = el := by simp [Program.elem, h.under]
theorem KTy.under' {P : Program} {sl el k bytes : Nat} {z : Value} (h : KTy P sl el k bytes z) : P.underlying sl = some (.slice (P.elem sl)) := by rw [h.elem]; exact h.under

variable {P : Program} {sl el bytes : Nat} {z : Value}
theorem kr_to (T : KTy P sl el k bytes z) {w : World} {v : Value} {l : List α} (hv : KRow enc k w v l) (n : Nat) (hn : n ≤ l.length) :
    ∃ u, (∀ W, (Instr.slice sl v none (some (.int .i64 (n : Int))) none).run P W = .ok u W) ∧ ∀ X, KRow enc k X v l → KRow enc k X u (l.take n) := by
  obtain ⟨A, cap, rfl, hlc, hcm, hnil, _⟩ := hv
  refine ⟨sliced A 0 n cap k, fun W => ?_, fun X hX => ?_⟩
  · rw [run_slice_h W sl A l.length cap T.under' .i64 (n : Int) (by omega) (by omega), T.elem, T.size W]
    simp [Result.andThen]
  · obtain ⟨A', cap', he, _, _, hn0, hr⟩ := hX
    simp only [Value.slice.injEq] at he
    obtain ⟨hA, _, hc⟩ := he
    subst hA hc
    refine ⟨_, _, by unfold sliced; rw [List.length_take, Nat.min_eq_left hn, Nat.sub_zero], by rw [List.length_take]; omega, by omega, fun h => ?_, fun h0 => ?_⟩
    · cases A with
      | none => rw [hn0 rfl]
      | some a => split at h <;> simp at h
    · rw [List.length_take] at h0
      obtain ⟨b, off, rfl, hb, hc⟩ := hr (by omega)
      refine ⟨b, off, ?_, hb, fun i x hx => hc i x ?_⟩
      · split
        · rfl
        · simp [Go.WideShapes.add_plain]
      · rw [List.getElem?_take] at hx
        split at hx
        · exact hx
        · cases hx
theorem kr_from (T : KTy P sl el k bytes z) {w : World} {v : Value} {l : List α} (hv : KRow enc k w v l) (n : Nat) (hn : n ≤ l.length) :
    ∃ u, (∀ W, (Instr.slice sl v (some (.int .i64 (n : Int))) none none).run P W = .ok u W) ∧ ∀ X, KRow enc k X v l → KRow enc k X u (l.drop n) := by
  obtain ⟨A, cap, rfl, hlc, hcm, hnil, _⟩ := hv
  refine ⟨sliced A n l.length cap k, fun W => ?_, fun X hX => ?_⟩
  · rw [run_slice_l W sl A l.length cap T.under' .i64 (n : Int) (by omega) (by omega), T.elem, T.size W]
    simp [Result.andThen]
  · obtain ⟨A', cap', he, _, _, hn0, hr⟩ := hX
    simp only [Value.slice.injEq] at he
    obtain ⟨hA, _, hc⟩ := he
    subst hA hc
    refine ⟨_, _, by unfold sliced; rw [List.length_drop], by rw [List.length_drop]; exact Nat.sub_le_sub_right hlc n, Nat.le_trans (Nat.sub_le _ _) hcm, fun h => ?_, fun h0 => ?_⟩
    · cases A with
      | none => rw [hn0 rfl]; omega
      | some a => split at h <;> simp at h
    · rw [List.length_drop] at h0
      have hne : ¬ cap = n := fun e => Nat.ne_of_gt h0 (Nat.sub_eq_zero_of_le (by rw [← e]; exact hlc))
      obtain ⟨b, off, rfl, hb, hc⟩ := hr (Nat.lt_of_lt_of_le h0 (Nat.sub_le _ _))
      refine ⟨b, off + n * k, ?_, hb, fun i x hx j u hu => ?_⟩
      · rw [if_neg hne]
        simp [Go.WideShapes.add_plain]
      · rw [List.getElem?_drop] at hx
        have := hc (n + i) x hx j u hu
        rw [show off + n * k + i * k + j = off + (n + i) * k + j by rw [Nat.add_mul]; omega]
        exact this
theorem run_append_krow (T : KTy P sl el k bytes z) (hk : ∀ x, (enc x).length = k) (w : World) (ty base : Nat) (v : Value) (R : List α) (hown : KOwn enc el k w base v R) (u : Value) (N : List α) (hu : KRow enc k w u N)
    (h1 : ∀ x ∈ N, ∀ u ∈ enc x, u.oneCell' = true) (hn : R.length + N.length ≤ 2000) (hbase : base ≤ w.heap.size) :
    ∃ v' w', (Builtin.append_ #[sl, sl] ty #[v, u]).run P w = .ok v' w' ∧ KOwn enc el k w' base v' (R ++ N) ∧ w.grownBy w' v.ownBlock := by
  obtain ⟨i0, hi0, hz0, hz1, hz2⟩ := info_parts T.info
  obtain ⟨A, cap, rfl, hlc, hcm, hnil, hrow⟩ := hu
  cases A with
  | none =>
    have h0 : N.length = 0 := by
      rcases Nat.eq_zero_or_pos N.length with h | h
      · exact h
      · obtain ⟨_, _, h, _⟩ := hrow h; cases h
    obtain rfl : N = [] := List.eq_nil_of_length_eq_zero h0
    obtain rfl := hnil rfl
    refine ⟨v, w, run_append_owned_none w base sl ty el i0 k T.under hi0 v R.length (R.flatMap enc) hown, by rw [List.append_nil]; exact hown, ?_⟩
    exact ⟨rfl, rfl, rfl, Nat.le_refl _, fun _ _ _ => rfl⟩
  | some ad =>
    have hnews : ∀ j u, (N.flatMap enc)[j]? = some u → w.cell? (ad.add j) = some u := by
      intro j u hu
      have hpos : 0 < N.length := by
        rcases Nat.eq_zero_or_pos N.length with h | h
        · obtain rfl := List.eq_nil_of_length_eq_zero h
          simp at hu
        · exact h
      obtain ⟨b, off, he, hbs, hc⟩ := hrow hpos
      obtain rfl : ad = ⟨b, off, none⟩ := by simpa using he
      exact KRow.news hk T.pos hc j u hu
    have hone : ∀ u ∈ N.flatMap enc, u.oneCell' = true := fun u hu => by
      obtain ⟨x, hx, hxu⟩ := List.mem_flatMap.1 hu
      exact h1 x hx u hxu
    obtain ⟨v', w', hr, h2, h3, _⟩ := run_append_own_at (P := P) w base sl ty el i0 _ k bytes T.under hi0 hz0 hz1 hz2 T.cells T.pos v R.length (R.flatMap enc) hown ad N.length cap (N.flatMap enc) (kc_len hk N) hnews hone (by unfold maxLen; omega)
      (Nat.le_trans (Nat.mul_le_mul hn T.few) (by omega)) hbase
    refine ⟨v', w', hr, ?_, h3⟩
    unfold KOwn
    rw [List.length_append, List.flatMap_append]
    exact h2
theorem wp_append_krow (T : KTy P sl el k bytes z) (hk : ∀ x, (enc x).length = k) {w : World} {o : Oper} {a : Act} {K : Act → World → Prop} {Q : Exit → Act → World → Prop} (s x : Operand)
    (ho : o.op = .call { callee := .builtin .append, args := #[s, x], argTypes := #[sl, sl] }) (base : Nat) (v : Value) (R : List α) (hs : a.eval s = v) (hown : KOwn enc el k w base v R)
    (u : Value) (N : List α) (hx : a.eval x = u) (hu : KRow enc k w u N) (h1 : ∀ x ∈ N, ∀ u ∈ enc x, u.oneCell' = true) (hn : R.length + N.length ≤ 2000) (hbase : base ≤ w.heap.size)
    (h : ∀ v' w', KOwn enc el k w' base v' (R ++ N) → w.grownBy w' v.ownBlock → K (a.put o.dst v') w') : o.wp P a w K Q := by
  obtain ⟨v', w', hr, h2, h3⟩ := run_append_krow T hk w o.type base v R hown u N hu h1 hn hbase
  unfold Oper.wp execOp
  simp only [ho, resolve, invoke, builtin, Sem.run_bind, Sem.run_pure, Result.andThen_ok, List.map_toArray, List.map_cons, List.map_nil, hs, hx, hr]
  exact h v' w' h2 h3
theorem wpList_append_krow (T : KTy P sl el k bytes z) (hk : ∀ x, (enc x).length = k) {w : World} {ops : Array Oper} {rest : List Oper} {o : Oper} {a : Act} {Q : Exit → Act → World → Prop} (hgd : o.guard = none) (s x : Operand)
    (ho : o.op = .call { callee := .builtin .append, args := #[s, x], argTypes := #[sl, sl] }) (base : Nat) (v : Value) (R : List α) (hs : a.eval s = v) (hown : KOwn enc el k w base v R)
    (u : Value) (N : List α) (hx : a.eval x = u) (hu : KRow enc k w u N) (h1 : ∀ x ∈ N, ∀ u ∈ enc x, u.oneCell' = true) (hn : R.length + N.length ≤ 2000) (hbase : base ≤ w.heap.size)
    (h : ∀ v' w', KOwn enc el k w' base v' (R ++ N) → w.grownBy w' v.ownBlock → wpList P ops Q rest (a.put o.dst v') w') : wpList P ops Q (o :: rest) a w :=
  wpList_plain hgd fun _ hK => wp_append_krow T hk s x ho base v R hs hown u N hx hu h1 hn hbase fun v' w' h2 h3 => hK _ _ (h v' w' h2 h3)
theorem step_append_krow (T : KTy P sl el k bytes z) (hk : ∀ x, (enc x).length = k) {w : World} {ops : Array Oper} {o : Oper} {a : Act} {K : Act → World → Prop} {Q : Exit → Act → World → Prop} {E : Prop} (hgd : o.guard = none) (s x : Operand)
    (ho : o.op = .call { callee := .builtin .append, args := #[s, x], argTypes := #[sl, sl] }) (base : Nat) (v : Value) (R : List α) (hs : a.eval s = v) (hown : KOwn enc el k w base v R)
    (u : Value) (N : List α) (hx : a.eval x = u) (hu : KRow enc k w u N) (h1 : ∀ x ∈ N, ∀ u ∈ enc x, u.oneCell' = true) (hn : R.length + N.length ≤ 2000) (hbase : base ≤ w.heap.size)
    (h : ∀ v' w', KOwn enc el k w' base v' (R ++ N) → w.grownBy w' v.ownBlock → K (a.put o.dst v') w') :
    if Region.wanted o (yielded ops a.tmps) = true then Oper.wp P o a w K Q else E := by
  have hw : Region.wanted o (yielded ops a.tmps) = true := by simp [Region.wanted, hgd]
  rw [if_pos hw]
  exact wp_append_krow T hk s x ho base v R hs hown u N hx hu h1 hn hbase h
/-- a new row of one's own that holds nothing yet -/
theorem KOwn.made (enc : α → List Value) (el k : Nat) (w : World) : KOwn enc el k (w.alloc (.cells #[] el)) w.heap.size (.slice (some ⟨w.heap.size, 0, none⟩) 0 0) [] :=
  World.ownsRow_made w #[] 0 (Nat.le_refl _) (Nat.zero_le _) (by simp)
end

end Go.Proofs.YthniemoganoapaaDoor
