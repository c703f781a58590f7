/- The library's sort at labels, by the names; the plain side of Sort's loop. -/
import Derived.Test.YtaloimbffijalaaDoorLabelD
set_option maxRecDepth 100000
set_option linter.unusedVariables false
set_option linter.unusedSimpArgs false
namespace Go.Proofs.YtaloimbffijalaaDoor
open Go.RowKit Go.Sort Go.Shelf Go.Lib

/-- the order by the names, as the sort asks it -/
def cfL (x y : Lb) : Int := cb x.1 y.1
theorem swoL : SWO (ltOf cfL) where
  irrefl x := by unfold ltOf cfL; rw [cb_refl]; rfl
  trans x y z h1 h2 := by
    unfold ltOf cfL at *
    exact decide_eq_true (cb_trans _ _ _ (of_decide_eq_true h1) (of_decide_eq_true h2))
  ntrans x y z h1 h2 := by
    unfold ltOf cfL at *
    have h1 := of_decide_eq_false h1
    have h2 := of_decide_eq_false h2
    apply decide_eq_false
    have k1 : cb y.1 x.1 ≤ 0 := by rw [cb_neg]; omega
    have k2 : cb z.1 y.1 ≤ 0 := by rw [cb_neg]; omega
    have k3 := cb_le_trans k2 k1
    rw [cb_neg] at k3; omega
/-- none is ahead of one before it -/
abbrev Asc (D : List Lb) : Prop := ∀ i j, i < j → j < D.length → cb (lbAt D i).1 (lbAt D j).1 ≤ 0
theorem strict_of_adj {D : List Lb} (h : Asc D) (k : ∀ j, j + 1 < D.length → cb (lbAt D j).1 (lbAt D (j + 1)).1 ≠ 0) : StrictS D := by
  unfold StrictS
  rw [List.pairwise_iff_getElem]
  intro i j hi hj hij
  rw [← lbAt_of hi, ← lbAt_of hj]
  obtain ⟨m, rfl⟩ : ∃ m, j = m + 1 := ⟨j - 1, by omega⟩
  have a1 := k m hj
  have a2 := h m (m + 1) (by omega) hj
  have a3 : cb (lbAt D m).1 (lbAt D (m + 1)).1 < 0 := by omega
  by_cases e : i = m
  · subst e; exact a3
  · have a4 := h i m (by omega) (by omega)
    rcases cb_range (lbAt D i).1 (lbAt D m).1 with b | b | b
    · exact cb_trans _ _ _ (by omega) a3
    · rw [cb_eq _ _ b]; exact a3
    · omega
theorem dup_of_adj {D : List Lb} {j : Nat} (h : j + 1 < D.length) (e : cb (lbAt D j).1 (lbAt D (j + 1)).1 = 0) : ¬ Nd D := by
  intro n
  unfold Nd at n
  rw [List.nodup_iff_pairwise_ne, List.pairwise_map, List.pairwise_iff_getElem] at n
  have := n j (j + 1) (by omega) h (by omega)
  rw [← lbAt_of (by omega), ← lbAt_of h] at this
  exact this (cb_eq _ _ e)
theorem at_arr (D : Array Lb) (i : Nat) (h : i < D.size) : D[i]! = lbAt D.toList i := by
  rw [getElem!_pos D i h, lbAt_of (by simpa using h)]; simp
theorem asc_of {D : Array Lb} (h : SortedIn (ltOf cfL) 0 D.size D) : Asc D.toList := fun i j hij hj => by
  have hj' : j < D.size := by simpa using hj
  have := h i j (Nat.zero_le _) hij hj'
  unfold ltOf cfL at this
  rw [at_arr D i (by omega), at_arr D j hj'] at this
  have := of_decide_eq_false this
  rw [cb_neg] at this; omega
theorem perm_of {d D : Array Lb} (h : PermIn 0 d.size d D) : D.toList.Perm d.toList := by
  obtain ⟨h1, _, h3⟩ := h
  have e1 : D.extract 0 d.size = D := by rw [← h1]; simp
  have e2 : d.extract 0 d.size = d := by simp
  rwa [e1, e2] at h3
theorem below_map {B : Nat} {a w : World} (h : Below B a w) (blk : Nat) (f : Array Value → Array Value) (hb : B ≤ blk) : Below B a (mapBlock w blk f) := by
  refine ⟨h.os, h.tape, h.output, ?_, fun b hbB => ?_⟩
  · have := h.size; unfold mapBlock; simpa using this
  · rw [← h.block b hbB]; unfold mapBlock; simp only
    rw [Array.getElem?_modify, if_neg (by omega)]
theorem below_sorted {B : Nat} {w : World} (g n : Nat) (D : Array Lb) (os : Array Obj) (hg : B ≤ g) (hB : B ≤ w.heap.size) : Below B w (sortWorldK encL 2 w g 0 n D os) := by
  unfold sortWorldK
  refine below_grow ?_ hB os
  unfold putRowK putRow
  refine below_map ?_ g _ hg
  exact ⟨rfl, rfl, rfl, Nat.le_refl _, fun _ _ => rfl⟩
theorem own_holds {w : World} {base g cap : Nat} {l : List Lb} (h : LbOwn w base (.slice (some ⟨g, 0, none⟩) l.length cap) l) : HoldsK encL 2 w g 0 l.toArray := by
  obtain ⟨hl, h⟩ := h
  rcases h with ⟨h, _⟩ | ⟨g', cap', cur, he, hb, hg, hn, hm, hs, ht⟩
  · cases h
  · cases he
    intro j hj
    rw [size_flatK] at hj
    have hj' : j < l.length * 2 := by simpa using hj
    rw [get_flatK _ _ _ _ hj]
    have hlj : (lbCells l)[j]? = some (encL l.toArray[j / 2]!)[j % 2]! := by
      have hj2 : j / 2 < l.length := by omega
      obtain ⟨h1, h2⟩ := lbCells_get l (j / 2) (l.toArray[j / 2]!) (by rw [getElem!_pos _ _ (by simpa using hj2)]; simp)
      rcases Nat.mod_two_eq_zero_or_one j with e | e
      · rw [e, show j = j / 2 * 2 by omega, h1, show j / 2 * 2 / 2 = j / 2 by omega]; rfl
      · rw [e, show (lbCells l)[j]? = (lbCells l)[j / 2 * 2 + 1]? by congr 1; omega, h2]; rfl
    refine ⟨?_, ?_⟩
    · rw [Nat.zero_add, cell_of_row w g j cur _ (0, 0) hg]
      show cur[j]? = some (encL l.toArray[j / 2]!)[j % 2]!
      rw [← hlj, ← ht, List.getElem?_take_of_lt (by omega)]; simp
    · unfold World.frozen?; simp only; rw [hg]; simp
set_option maxHeartbeats 2000000 in
theorem sortf_calls (l : List Lb) (g cap base : Nat) (w : World) (hown : LbOwn w base (.slice (some ⟨g, 0, none⟩) l.length cap) l) (hn : l.length ≤ 1000) :
    Calls Tryd.prog 25 #[.slice (some ⟨g, 0, none⟩) l.length cap, .func (.func 26) #[] #[]] w fun e w' =>
      e = .returned (.tuple #[]) ∧ ∃ D : List Lb, D.Perm l ∧ Asc D ∧ (∀ B, B ≤ g → B ≤ w.heap.size → Below B w w') ∧ LbRow w' (.slice (some ⟨g, 0, none⟩) l.length cap) D := by
  have hH := own_holds hown
  have hlt := own_lt hown g rfl
  obtain ⟨A, cap', he, hlc, hcm, _⟩ := LbOwn.row hown
  cases he
  have eg : ∀ args w, (callFunc 26 args).run Tryd.prog w = .ok (.enter 26 args) w := enters_of Tryd.func26 (by kernel_rfl) rfl
  have hc : CmpLays Tryd.prog 26 #[] encL 2 cfL g 0 l.toArray.size w := fun _ _ _ _ x y => byname_grow x y _
  have hcon := AnyQ.slices_SortFunc sortLb 2 Tryd.isAgg38 Tryd.sizeOf38 encL (fun _ => rfl) (fun x v hv => by simp [encL] at hv; rcases hv with rfl | rfl <;> rfl) cfL swoL 26 #[] g 0 cap l.toArray w eg hc hH hlt (by simp; omega)
  change Calls Tryd.prog 25 _ _ _ at hcon
  have hs : l.toArray.size = l.length := by simp
  rw [hs] at hcon
  refine hcon.mono ?_
  rintro e w' ⟨rfl, D, n, os, hp, hsd, rfl⟩
  have hsz : D.size = l.length := by rw [← hs]; exact hp.1
  have hp' : PermIn 0 l.toArray.size l.toArray D := by rw [hs]; exact hp
  refine ⟨rfl, D.toList, by simpa using perm_of hp', asc_of (by rw [hsz]; exact hsd), fun B hB1 hB2 => below_sorted g n D os hB1 hB2, ?_⟩
  have hK := holdsK_sortWorldK_c encL 2 w g 0 l.toArray D n os hH hlt (by rw [hs, hsz])
  refine ⟨_, cap, by rw [show D.toList.length = l.length by simpa using hsz], by rw [show D.toList.length = l.length by simpa using hsz]; exact hlc, hcm, (by rintro ⟨⟩), fun _ => ⟨g, 0, rfl, Nat.lt_of_lt_of_le hlt (size_sortWorldK_c encL 2 w g 0 n D os), fun i p hp => ?_⟩⟩
  have hi : i < D.size := by
    rcases Nat.lt_or_ge i D.size with h | h
    · exact h
    · rw [List.getElem?_eq_none (by simpa using h)] at hp; cases hp
  have hpi : D[i]! = p := by
    rw [getElem!_pos D i hi]
    rw [List.getElem?_eq_getElem (by simpa using hi)] at hp
    simpa using hp
  have c0 := (hK.cell (i := i) (c := 0) hi (by omega)).1
  have c1 := (hK.cell (i := i) (c := 1) hi (by omega)).1
  rw [hpi] at c0 c1
  exact ⟨c0, c1⟩

end Go.Proofs.YtaloimbffijalaaDoor
