/- Rows of labels cut and put together: what stands in a piece of a row; append of a row, which may be empty, to a row that the call owns. -/
import Derived.Test.YtaloimbffijalaaDoorLabelD
set_option maxRecDepth 100000
set_option linter.unusedVariables false
set_option linter.unusedSimpArgs false
namespace Go.Proofs.YtaloimbffijalaaDoor
open Go.RowKit Go.Sort

theorem elem_label : Tryd.prog.elem 22 = 38 := by
  simp [Program.elem, Tryd.underlying22]
theorem under_label : Tryd.prog.underlying 22 = some (.slice (Tryd.prog.elem 22)) := by rw [elem_label]; exact Tryd.underlying22
theorem lb_to {w : World} {v : Value} {l : List Lb} (hv : LbRow w v l) (k : Nat) (hk : k ≤ l.length) :
    ∃ u, (∀ W, (Instr.slice 22 v none (some (.int .i64 (k : Int))) none).run Tryd.prog W = .ok u W) ∧ ∀ X, LbRow X v l → LbRow X u (l.take k) := by
  obtain ⟨A, cap, rfl, hlc, hcm, hnil, _⟩ := hv
  refine ⟨sliced A 0 k cap 2, fun W => ?_, fun X hX => ?_⟩
  · rw [run_slice_h W 22 A l.length cap under_label .i64 (k : Int) (by omega) (by omega), elem_label, Tryd.sizeOf38 W]
    simp [Result.andThen]
  · obtain ⟨A', cap', he, _, _, hn, hr⟩ := hX
    simp only [Value.slice.injEq] at he
    obtain ⟨hA, _, hc⟩ := he
    subst hA hc
    refine ⟨_, _, by unfold sliced; rw [List.length_take, Nat.min_eq_left hk, Nat.sub_zero], by rw [List.length_take]; omega, by omega, fun h => ?_, fun h0 => ?_⟩
    · cases A with
      | none => rw [hn rfl]
      | some a => split at h <;> simp at h
    · rw [List.length_take] at h0
      obtain ⟨b, off, rfl, hb, hc⟩ := hr (by omega)
      refine ⟨b, off, ?_, hb, fun i p hp => hc i p ?_⟩
      · split
        · rfl
        · simp [Go.WideShapes.add_plain]
      · rw [List.getElem?_take] at hp
        split at hp
        · exact hp
        · cases hp
theorem lb_from {w : World} {v : Value} {l : List Lb} (hv : LbRow w v l) (k : Nat) (hk : k ≤ l.length) :
    ∃ u, (∀ W, (Instr.slice 22 v (some (.int .i64 (k : Int))) none none).run Tryd.prog W = .ok u W) ∧ ∀ X, LbRow X v l → LbRow X u (l.drop k) := by
  obtain ⟨A, cap, rfl, hlc, hcm, hnil, _⟩ := hv
  refine ⟨sliced A k l.length cap 2, fun W => ?_, fun X hX => ?_⟩
  · rw [run_slice_l W 22 A l.length cap under_label .i64 (k : Int) (by omega) (by omega), elem_label, Tryd.sizeOf38 W]
    simp [Result.andThen]
  · obtain ⟨A', cap', he, _, _, hn, hr⟩ := hX
    simp only [Value.slice.injEq] at he
    obtain ⟨hA, _, hc⟩ := he
    subst hA hc
    refine ⟨_, _, by unfold sliced; rw [List.length_drop], by rw [List.length_drop]; exact Nat.sub_le_sub_right hlc k, Nat.le_trans (Nat.sub_le _ _) hcm, fun h => ?_, fun h0 => ?_⟩
    · cases A with
      | none => rw [hn rfl]; omega
      | some a => split at h <;> simp at h
    · rw [List.length_drop] at h0
      have hne : ¬ cap = k := fun e => Nat.ne_of_gt h0 (Nat.sub_eq_zero_of_le (by rw [← e]; exact hlc))
      obtain ⟨b, off, rfl, hb, hc⟩ := hr (Nat.lt_of_lt_of_le h0 (Nat.sub_le _ _))
      refine ⟨b, off + k * 2, ?_, hb, fun i p hp => ?_⟩
      · rw [if_neg hne]
        simp [Go.WideShapes.add_plain]
      · rw [List.getElem?_drop] at hp
        have := hc (k + i) p hp
        rw [show off + k * 2 + i * 2 = off + (k + i) * 2 by omega]
        exact this
theorem own_mono {w : World} {base base' : Nat} {v : Value} {l : List Lb} (h : LbOwn w base v l) (hb : base' ≤ base) : LbOwn w base' v l := by
  obtain ⟨hl, h⟩ := h
  refine ⟨hl, ?_⟩
  rcases h with h | ⟨g, cap, cur, rfl, hg, h2⟩
  · exact Or.inl h
  · exact Or.inr ⟨g, cap, cur, rfl, Nat.le_trans hb hg, h2⟩
theorem run_append_row (w : World) (ty base : Nat) (v : Value) (R : List Lb) (hown : LbOwn w base v R) (u : Value) (N : List Lb) (hu : LbRow w u N) (hn : R.length + N.length ≤ 2000) (hbase : base ≤ w.heap.size) :
    ∃ v' w', (Builtin.append_ #[22, 22] ty #[v, u]).run Tryd.prog w = .ok v' w' ∧ LbOwn w' base v' (R ++ N) ∧ w.grownBy w' v.ownBlock := by
  obtain ⟨i0, hi0, hz0, hz1, hz2⟩ := info_parts label_info
  obtain ⟨A, cap, rfl, hlc, hcm, hnil, hrow⟩ := hu
  cases A with
  | none =>
    have h0 : N.length = 0 := by
      rcases Nat.eq_zero_or_pos N.length with h | h
      · exact h
      · obtain ⟨_, _, h, _⟩ := hrow h; cases h
    obtain rfl : N = [] := List.eq_nil_of_length_eq_zero h0
    obtain rfl := hnil rfl
    refine ⟨v, w, run_append_owned_none w base 22 ty 38 i0 2 Tryd.underlying22 hi0 v R.length (lbCells R) hown, by rw [List.append_nil]; exact hown, ?_⟩
    exact ⟨rfl, rfl, rfl, Nat.le_refl _, fun _ _ _ => rfl⟩
  | some ad =>
    have hnews : ∀ j u, (lbCells N)[j]? = some u → w.cell? (ad.add j) = some u := by
      intro j u hu
      have hpos : 0 < N.length := by
        rcases Nat.eq_zero_or_pos N.length with h | h
        · obtain rfl := List.eq_nil_of_length_eq_zero h
          simp [lbCells] at hu
        · exact h
      obtain ⟨b, off, he, hbs, hc⟩ := hrow hpos
      obtain rfl : ad = ⟨b, off, none⟩ := by simpa using he
      exact LbRow.news (n := 0) (cap := 0) hc j u hu
    obtain ⟨v', w', hr, h2, h3, _⟩ := run_append_own_at (P := Tryd.prog) w base 22 ty 38 i0 _ 2 32 Tryd.underlying22 hi0 hz0 hz1 hz2 rfl (by omega) v R.length (lbCells R) hown ad N.length cap (lbCells N) (lbCells_len N) hnews (lbCells_one N) (by unfold maxLen; omega) (by omega) hbase
    refine ⟨v', w', hr, ?_, h3⟩
    unfold LbOwn
    rw [List.length_append, lbCells_app]
    exact h2
theorem wp_append_row {w : World} {o : Oper} {a : Act} {K : Act → World → Prop} {Q : Exit → Act → World → Prop} (s x : Operand)
    (ho : o.op = .call { callee := .builtin .append, args := #[s, x], argTypes := #[22, 22] }) (base : Nat) (v : Value) (R : List Lb) (hs : a.eval s = v) (hown : LbOwn w base v R)
    (u : Value) (N : List Lb) (hx : a.eval x = u) (hu : LbRow w u N) (hn : R.length + N.length ≤ 2000) (hbase : base ≤ w.heap.size)
    (h : ∀ v' w', LbOwn w' base v' (R ++ N) → w.grownBy w' v.ownBlock → K (a.put o.dst v') w') : o.wp Tryd.prog a w K Q := by
  obtain ⟨v', w', hr, h2, h3⟩ := run_append_row w o.type base v R hown u N hu hn hbase
  unfold Oper.wp execOp
  simp only [ho, resolve, invoke, builtin, Sem.run_bind, Sem.run_pure, Result.andThen_ok, List.map_toArray, List.map_cons, List.map_nil, hs, hx, hr]
  exact h v' w' h2 h3
theorem wpList_append_row {w : World} {ops : Array Oper} {rest : List Oper} {o : Oper} {a : Act} {Q : Exit → Act → World → Prop} (hgd : o.guard = none) (s x : Operand)
    (ho : o.op = .call { callee := .builtin .append, args := #[s, x], argTypes := #[22, 22] }) (base : Nat) (v : Value) (R : List Lb) (hs : a.eval s = v) (hown : LbOwn w base v R)
    (u : Value) (N : List Lb) (hx : a.eval x = u) (hu : LbRow w u N) (hn : R.length + N.length ≤ 2000) (hbase : base ≤ w.heap.size)
    (h : ∀ v' w', LbOwn w' base v' (R ++ N) → w.grownBy w' v.ownBlock → wpList Tryd.prog ops Q rest (a.put o.dst v') w') : wpList Tryd.prog ops Q (o :: rest) a w :=
  wpList_plain hgd fun _ hK => wp_append_row s x ho base v R hs hown u N hx hu hn hbase fun v' w' h2 h3 => hK _ _ (h v' w' h2 h3)
theorem step_append_row {w : World} {ops : Array Oper} {o : Oper} {a : Act} {K : Act → World → Prop} {Q : Exit → Act → World → Prop} {E : Prop} (hgd : o.guard = none) (s x : Operand)
    (ho : o.op = .call { callee := .builtin .append, args := #[s, x], argTypes := #[22, 22] }) (base : Nat) (v : Value) (R : List Lb) (hs : a.eval s = v) (hown : LbOwn w base v R)
    (u : Value) (N : List Lb) (hx : a.eval x = u) (hu : LbRow w u N) (hn : R.length + N.length ≤ 2000) (hbase : base ≤ w.heap.size)
    (h : ∀ v' w', LbOwn w' base v' (R ++ N) → w.grownBy w' v.ownBlock → K (a.put o.dst v') w') :
    if Region.wanted o (yielded ops a.tmps) = true then Oper.wp Tryd.prog o a w K Q else E := by
  have hw : Region.wanted o (yielded ops a.tmps) = true := by simp [Region.wanted, hgd]
  rw [if_pos hw]
  exact wp_append_row s x ho base v R hs hown u N hx hu hn hbase h
/-- one label in a block of its own -/
theorem lb_one {w : World} {g : Nat} {X : Lb} (hg : g < w.heap.size) (h0 : w.cell? ⟨g, 0, none⟩ = some (.string (str X.1))) (h1 : w.cell? ⟨g, 1, none⟩ = some (.string (str X.2))) : LbRow w (.slice (some ⟨g, 0, none⟩) 1 1) [X] :=
  ⟨_, 1, rfl, Nat.le_refl _, by unfold maxLen; omega, (by rintro ⟨⟩), fun _ => ⟨g, 0, rfl, hg, fun i p hp => by
    match i, hp with
    | 0, hp => obtain rfl : X = p := by simpa using hp
               exact ⟨h0, h1⟩
    | i + 1, hp => simp at hp⟩⟩

end Go.Proofs.YtaloimbffijalaaDoor
