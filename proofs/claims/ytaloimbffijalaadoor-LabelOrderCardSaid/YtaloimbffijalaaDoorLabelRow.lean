/- Rows of labels: as they came in, as they are made. -/
import Derived.Test.YtaloimbffijalaaDoorLabelPlain
import Derived.Test.YtaloimbffijalaaDoorStr
import Derived.Test.YtaloimbffijalaaDoorFrame
import Derived.Deep.AppendLies
import Derived.Deep.Slices
import Derived.Deep.Fields
set_option maxRecDepth 100000
set_option linter.unusedVariables false
set_option linter.unusedSimpArgs false
namespace Go.Proofs.YtaloimbffijalaaDoor
open Go.RowKit Go.ChangeShapes Go.WideShapes Go.Deep

/-- a label's two cells -/
def encL (x : Lb) : List Value := [.string (str x.1), .string (str x.2)]
def lbCells : List Lb → List Value
  | [] => []
  | x :: l => .string (str x.1) :: .string (str x.2) :: lbCells l
theorem lbCells_len : ∀ l, (lbCells l).length = l.length * 2
  | [] => rfl
  | x :: l => by rw [lbCells, List.length_cons, List.length_cons, lbCells_len l, List.length_cons]; omega
theorem lbCells_app : ∀ a b, lbCells (a ++ b) = lbCells a ++ lbCells b
  | [], _ => rfl
  | x :: a, b => by rw [List.cons_append, lbCells, lbCells, lbCells_app a b]; rfl
theorem lbCells_one (l : List Lb) : ∀ u ∈ lbCells l, u.oneCell' = true := by
  induction l with
  | nil => intro u hu; cases hu
  | cons x l ih =>
    intro u hu
    rcases List.mem_cons.1 hu with rfl | hu
    · rfl
    rcases List.mem_cons.1 hu with rfl | hu
    · rfl
    exact ih u hu
theorem lbCells_get : ∀ (l : List Lb) (i : Nat) (x : Lb), l[i]? = some x → (lbCells l)[i * 2]? = some (.string (str x.1)) ∧ (lbCells l)[i * 2 + 1]? = some (.string (str x.2))
  | [], _, _, h => by simp at h
  | y :: l, 0, x, h => by obtain rfl : y = x := by simpa using h
                          exact ⟨rfl, rfl⟩
  | y :: l, i + 1, x, h => by
    have := lbCells_get l i x (by simpa using h)
    rw [lbCells, show (i + 1) * 2 = i * 2 + 1 + 1 by omega]
    exact this
theorem lbCells_at : ∀ (l : List Lb) (j : Nat) (u : Value), (lbCells l)[j]? = some u → ∃ x, l[j / 2]? = some x ∧ ((j % 2 = 0 ∧ u = .string (str x.1)) ∨ (j % 2 = 1 ∧ u = .string (str x.2)))
  | [], _, _, h => by simp [lbCells] at h
  | y :: l, 0, u, h => ⟨y, rfl, Or.inl ⟨rfl, by simpa [lbCells] using h.symm⟩⟩
  | y :: l, 1, u, h => ⟨y, rfl, Or.inr ⟨rfl, by simpa [lbCells] using h.symm⟩⟩
  | y :: l, j + 2, u, h => by
    obtain ⟨x, hx, h2⟩ := lbCells_at l j u (by simpa [lbCells] using h)
    exact ⟨x, by rw [show (j + 2) / 2 = j / 2 + 1 by omega]; simpa using hx, by rw [show (j + 2) % 2 = j % 2 by omega]; exact h2⟩

/-- a slice of labels -/
def LbRow (w : World) (v : Value) (l : List Lb) : Prop :=
  ∃ A cap, v = .slice A l.length cap ∧ l.length ≤ cap ∧ cap ≤ maxLen ∧ (A = none → cap = 0) ∧ (0 < l.length → ∃ b off, A = some ⟨b, off, none⟩ ∧ b < w.heap.size ∧ ∀ i p, l[i]? = some p → w.cell? ⟨b, off + i * 2, none⟩ = some (.string (str p.1)) ∧ w.cell? ⟨b, off + i * 2 + 1, none⟩ = some (.string (str p.2)))
theorem LbRow.below {w w' : World} {v : Value} {l : List Lb} (h : LbRow w v l) (hb : Below w.heap.size w w') : LbRow w' v l := by
  obtain ⟨A, cap, rfl, h1, h2, hn, h3⟩ := h
  refine ⟨A, cap, rfl, h1, h2, hn, fun h0 => ?_⟩
  obtain ⟨b, off, rfl, hlt, hc⟩ := h3 h0
  exact ⟨b, off, rfl, Nat.lt_of_lt_of_le hlt hb.size, fun i p hp => ⟨(hb.cell (p := ⟨b, off + i * 2, none⟩) hlt).trans (hc i p hp).1, (hb.cell (p := ⟨b, off + i * 2 + 1, none⟩) hlt).trans (hc i p hp).2⟩⟩
theorem LbRow.nil (w : World) : LbRow w (.slice none 0 0) [] := ⟨none, 0, rfl, Nat.le_refl _, by unfold maxLen; omega, fun _ => rfl, fun h => absurd h (by simp)⟩
/-- as many bytes in each as a string may have -/
abbrev Fit (l : List Lb) : Prop := ∀ x ∈ l, x.1.length ≤ maxLen ∧ x.2.length ≤ maxLen
/-- a row that the call owns -/
abbrev LbOwn (w : World) (base : Nat) (v : Value) (l : List Lb) : Prop := w.ownsRow base 38 2 v l.length (lbCells l)
theorem LbOwn.nil (w : World) (base : Nat) : LbOwn w base (.slice none 0 0) [] := ⟨rfl, Or.inl ⟨rfl, rfl⟩⟩
theorem LbOwn.row {w : World} {base : Nat} {v : Value} {l : List Lb} (h : LbOwn w base v l) : LbRow w v l := by
  obtain ⟨hl, h⟩ := h
  rcases h with ⟨rfl, h0⟩ | ⟨g, cap, cur, rfl, hb, hg, hn, hm, hs, ht⟩
  · exact ⟨none, 0, by rw [h0], by omega, by unfold maxLen; omega, fun _ => rfl, fun h => absurd h (by omega)⟩
  · refine ⟨_, cap, rfl, hn, hm, (by rintro ⟨⟩), fun _ => ⟨g, 0, rfl, (Array.getElem?_eq_some_iff.1 hg).1, fun i p hp => ?_⟩⟩
    obtain ⟨h1, h2⟩ := lbCells_get l i p hp
    have hi : i < l.length := by
      rcases Nat.lt_or_ge i l.length with h | h
      · exact h
      · rw [List.getElem?_eq_none h] at hp; cases hp
    refine ⟨?_, ?_⟩
    · rw [cell_of_row w g _ cur _ (0, 0) hg, ← h1, ← ht, List.getElem?_take_of_lt (by omega), Nat.zero_add]; simp
    · rw [cell_of_row w g _ cur _ (0, 0) hg, ← h2, ← ht, List.getElem?_take_of_lt (by omega), Nat.zero_add]; simp
/-- the cells of a row that came in, from a place on -/
theorem LbRow.news {w : World} {b off n cap : Nat} {l : List Lb} (h : ∀ i p, l[i]? = some p → w.cell? ⟨b, off + i * 2, none⟩ = some (.string (str p.1)) ∧ w.cell? ⟨b, off + i * 2 + 1, none⟩ = some (.string (str p.2))) :
    ∀ j u, (lbCells l)[j]? = some u → w.cell? ((⟨b, off, none⟩ : Addr).add j) = some u := fun j u hu => by
  obtain ⟨x, hx, h2⟩ := lbCells_at l j u hu
  obtain ⟨c1, c2⟩ := h _ _ hx
  rw [Go.WideShapes.add_plain]
  rcases h2 with ⟨hm, rfl⟩ | ⟨hm, rfl⟩
  · rw [← c1]; congr 2; omega
  · rw [← c2]; congr 2; omega

theorem trod_label {H : Type} {enc : TypeId × Value → H} {W : World} {base : Nat} {sp : Nat → Bool} {held : Bool} {fuel : Nat} {cs : List Value} {x : DataW H × List MemPlace}
    (h : DataW.trod enc Tryd.prog W base sp held fuel 38 cs = some x) : ∃ p : Lb, cs = encL p ∧ p.1.length ≤ maxLen ∧ p.2.length ≤ maxLen := by
  obtain ⟨xs, n, rfl, _, hlen, hxs, hf⟩ := DataW.trod_struct Tryd.underlying38 h
  have hc : Tryd.prog.cellsOf 38 = 2 := by kernel_rfl
  rw [hc] at hlen
  match cs, hlen with
  | [u0, u1], _ =>
    have hs : xs.length = 2 := by rw [hxs]; rfl
    match xs, hs with
    | [x0, x1], _ =>
      have h0 := hf 0 _ rfl
      have h1 := hf 1 _ rfl
      have c0 : Tryd.prog.cellsOf 9 = 1 := by kernel_rfl
      simp only [List.getElem_toArray, List.getElem_cons_zero, List.getElem_cons_succ, c0] at h0 h1
      obtain ⟨a, e0, _, wa⟩ := DataW.trod_string Tryd.underlying9 h0
      obtain ⟨b, e1, _, wb⟩ := DataW.trod_string Tryd.underlying9 h1
      have f0 : u0 = .string a := by simpa using e0
      have f1 : u1 = .string b := by simpa using e1
      exact ⟨(a.data.toList, b.data.toList), by rw [f0, f1]; rfl, wa, wb⟩
theorem lbRow_of {H : Type} {enc : TypeId × Value → H} {W : World} {base : Nat} {sp : Nat → Bool} {held : Bool} {v : Value} {d : DataW H} {p : List MemPlace}
    (hv : Value.okWide Tryd.prog W .any 0 22 v) (h : DataW.Trod enc Tryd.prog W base sp held 22 v d p) : ∃ l, LbRow W v l ∧ Fit l := by
  obtain ⟨a, len, cap, rfl⟩ := okWide_slice Tryd.underlying22 hv
  obtain ⟨fuel, hf⟩ := h
  rcases open_slice Tryd.underlying22 hf with ⟨hcs, _⟩ | ⟨a', len', cap', m, k, D, Pl, hcs, hb, hl, hm, hmm, _, hi⟩
  · simp [Value.cells] at hcs
    obtain ⟨rfl, rfl, rfl⟩ := hcs
    exact ⟨[], LbRow.nil _, fun p hp => by cases hp⟩
  · simp [Value.cells] at hcs
    obtain ⟨rfl, rfl, rfl⟩ := hcs
    have hlen : len ≤ m := by rw [hmm]; split <;> omega
    have hC : Tryd.prog.cellsOf 38 = 2 := by kernel_rfl
    have hall : ∀ i, ∃ q : Lb, i < len → (q.1.length ≤ maxLen ∧ q.2.length ≤ maxLen) ∧ W.cell? (a'.add (i * 2 + 0)) = some (.string (str q.1)) ∧ W.cell? (a'.add (i * 2 + 1)) = some (.string (str q.2)) := fun i => by
      by_cases hil : i < len
      · obtain ⟨cs', hc, ht⟩ := hi i (by omega)
        obtain ⟨q, rfl, hq⟩ := trod_label ht
        rw [hC] at hc
        obtain ⟨_, _, hat⟩ := World.cells?_some hc
        refine ⟨q, fun _ => ⟨hq, ?_, ?_⟩⟩
        · rw [← Go.Deep.add_add, hat 0 (by omega)]; rfl
        · rw [← Go.Deep.add_add, hat 1 (by omega)]; rfl
      · exact ⟨([], []), fun h => absurd h hil⟩
    obtain ⟨qs, hqs⟩ := Classical.axiomOfChoice hall
    have hll : ((List.range len).map qs).length = len := by simp
    refine ⟨(List.range len).map qs, ⟨some a', cap, by rw [hll], by rw [hll]; exact hl, hm, (by rintro ⟨⟩), fun h0 => ?_⟩, fun p hp => ?_⟩
    · rw [hll] at h0
      have h00 := (hqs 0 h0).2.1
      obtain ⟨b, off, spot⟩ := a'
      have hspot : spot = none := by simpa [Addr.add] using World.cell?_spot h00
      subst hspot
      refine ⟨b, off, rfl, ?_, fun i q hq => ?_⟩
      · have := cell_lt h00
        simpa [Addr.add] using this
      · obtain ⟨hil, rfl⟩ : i < len ∧ qs i = q := by
          rw [List.getElem?_map] at hq
          by_cases hi2 : i < len
          · rw [List.getElem?_range hi2] at hq
            exact ⟨hi2, by simpa using hq⟩
          · rw [List.getElem?_eq_none (by simp; omega)] at hq
            cases hq
        have g := hqs i hil
        exact ⟨by rw [← g.2.1, Go.WideShapes.add_plain, Nat.add_zero], by rw [← g.2.2, Go.WideShapes.add_plain, Nat.add_assoc]⟩
    · obtain ⟨i, hi2, rfl⟩ := List.mem_map.1 hp
      exact (hqs i (List.mem_range.1 hi2)).1

end Go.Proofs.YtaloimbffijalaaDoor
