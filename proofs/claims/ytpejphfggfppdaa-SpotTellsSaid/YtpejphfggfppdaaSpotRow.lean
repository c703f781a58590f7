/- Slices of faults: as they come in, and as they are made by append. -/
import Derived.Test.YtpejphfggfppdaaSpotC
import Derived.Test.YtpejphfggfppdaaFrame
import Derived.Deep.AppendLies
import Derived.Deep.Slices
import Derived.Deep.Fields
namespace Go.Proofs.Ytpejphfggfppdaa
open Go.RowKit Go.ChangeShapes Go.WideShapes Go.Deep

def Ft.cells (f : Ft) : List Value := [.int .i64 f.c, .int .i64 f.o, .int .i64 f.l, .int .i64 f.k]
def ftCells (fs : Nat → Ft) : Nat → List Value
  | 0 => []
  | n + 1 => ftCells fs n ++ (fs n).cells
theorem ftCells_len (fs : Nat → Ft) : ∀ n, (ftCells fs n).length = n * 4
  | 0 => rfl
  | n + 1 => by rw [ftCells, List.length_append, ftCells_len fs n]; simp [Ft.cells]; omega
theorem ftCells_get (fs : Nat → Ft) : ∀ n i j, i < n → j < 4 → (ftCells fs n)[i * 4 + j]? = (fs i).cells[j]?
  | 0, _, _, h, _ => absurd h (Nat.not_lt_zero _)
  | n + 1, i, j, h, hj => by
    rw [ftCells]
    by_cases e : i < n
    · rw [List.getElem?_append_left (by rw [ftCells_len]; omega)]; exact ftCells_get fs n i j e hj
    · obtain rfl : i = n := by omega
      rw [List.getElem?_append_right (by rw [ftCells_len]; omega), ftCells_len, show i * 4 + j - i * 4 = j by omega]
theorem ftCells_one (fs : Nat → Ft) (n : Nat) : ∀ u ∈ ftCells fs n, u.oneCell' = true := by
  induction n with
  | zero => intro u hu; cases hu
  | succ n ih =>
    intro u hu
    rw [ftCells, List.mem_append] at hu
    rcases hu with hu | hu
    · exact ih u hu
    · simp [Ft.cells] at hu
      rcases hu with rfl | rfl | rfl | rfl <;> rfl
theorem ftRow_own {w : World} {base e : Nat} {v : Value} {n : Nat} {fs : Nat → Ft} (h : w.ownsRow base e 4 v n (ftCells fs n)) : FtRow w v n fs := by
  obtain ⟨hl, h⟩ := h
  rcases h with ⟨rfl, rfl⟩ | ⟨g, cap, cur, rfl, hb, hg, hn, hm, hs, ht⟩
  · exact ⟨none, 0, rfl, Nat.le_refl _, by unfold maxLen; omega, fun h => absurd h (by omega)⟩
  · refine ⟨_, cap, rfl, hn, hm, fun _ => ⟨g, 0, rfl, (Array.getElem?_eq_some_iff.1 hg).1, fun i hi => ?_⟩⟩
    have hc : ∀ j, j < 4 → w.cell? ⟨g, 0 + i * 4 + j, none⟩ = (fs i).cells[j]? := fun j hj => by
      rw [cell_of_row w g _ cur e (0, 0) hg, ← ftCells_get fs n i j hi hj, ← ht, List.getElem?_take_of_lt (by omega), Nat.zero_add]
      simp
    exact ⟨hc 0 (by omega), hc 1 (by omega), hc 2 (by omega), hc 3 (by omega)⟩
theorem FtRow.below {w w' : World} {v : Value} {n : Nat} {fs : Nat → Ft} (h : FtRow w v n fs) (hb : Below w.heap.size w w') : FtRow w' v n fs := by
  obtain ⟨a, cap, rfl, hn, hm, hc⟩ := h
  refine ⟨a, cap, rfl, hn, hm, fun h0 => ?_⟩
  obtain ⟨b, off, rfl, hbs, hcs⟩ := hc h0
  refine ⟨b, off, rfl, Nat.lt_of_lt_of_le hbs hb.size, fun i hi => ?_⟩
  obtain ⟨h0, h1, h2, h3⟩ := hcs i hi
  exact ⟨(hb.cell hbs).trans h0, (hb.cell hbs).trans h1, (hb.cell hbs).trans h2, (hb.cell hbs).trans h3⟩

theorem ftCells_ext {f g : Nat → Ft} : ∀ n, (∀ i, i < n → f i = g i) → ftCells f n = ftCells g n
  | 0, _ => rfl
  | n + 1, h => by rw [ftCells, ftCells, ftCells_ext n (fun i hi => h i (by omega)), h n (by omega)]
theorem first_ext {f g : Nat → Ft} : ∀ n, (∀ i, i < n → f i = g i) → Ft.first f n = Ft.first g n
  | 0, _ => rfl
  | n + 1, h => by rw [Ft.first, Ft.first, first_ext n (fun i hi => h i (by omega)), h n (by omega)]
def ftPut (f : Nat → Ft) (n : Nat) (x : Ft) (i : Nat) : Ft := if i < n then f i else x
theorem ftCells_put (f : Nat → Ft) (n : Nat) (x : Ft) : ftCells f n ++ x.cells = ftCells (ftPut f n x) (n + 1) := by
  rw [ftCells, ftCells_ext (f := ftPut f n x) (g := f) n (fun i hi => if_pos hi)]
  unfold ftPut; rw [if_neg (Nat.lt_irrefl n)]
theorem first_put (f : Nat → Ft) (n : Nat) (x : Ft) : Ft.first (ftPut f n x) (n + 1) = (Ft.first f n).step x := by
  rw [Ft.first, first_ext (f := ftPut f n x) (g := f) n (fun i hi => if_pos hi)]
  unfold ftPut; rw [if_neg (Nat.lt_irrefl n)]
theorem step_ways (a x : Ft) (hx : x.c ≠ 0) : ∃ b, a.step x = b ∧ ((a.c = 0 ∧ b = x ∧ x ≠ a) ∨ (a.c ≠ 0 ∧ x.o < a.o ∧ b = x ∧ x ≠ a) ∨ (a.c ≠ 0 ∧ ¬ x.o < a.o ∧ b = a)) := by
  refine ⟨_, rfl, ?_⟩
  unfold Ft.step
  rw [if_neg hx]
  by_cases h : a.c = 0
  · rw [if_pos (Or.inl h)]; exact Or.inl ⟨h, rfl, fun e => hx (by rw [e]; exact h)⟩
  · by_cases h2 : x.o < a.o
    · rw [if_pos (Or.inr h2)]; exact Or.inr (Or.inl ⟨h, h2, rfl, fun e => by rw [e] at h2; omega⟩)
    · rw [if_neg (by rintro (k | k); exact h k; exact h2 k)]; exact Or.inr (Or.inr ⟨h, h2, rfl⟩)
/-- the first of faults is one of them, or there is none; none is ahead of it -/
theorem first_spec (fs : Nat → Ft) : ∀ n, (Ft.first fs n = ⟨0, 0, 0, 0⟩ ∨ ∃ i, i < n ∧ fs i = Ft.first fs n ∧ (fs i).c ≠ 0) ∧ (∀ i, i < n → (fs i).c ≠ 0 → (Ft.first fs n).c ≠ 0 ∧ ¬ (fs i).o < (Ft.first fs n).o)
  | 0 => ⟨Or.inl rfl, fun i h => absurd h (Nat.not_lt_zero _)⟩
  | n + 1 => by
    obtain ⟨h1, h2⟩ := first_spec fs n
    have e : Ft.first fs (n + 1) = (Ft.first fs n).step (fs n) := rfl
    rw [e]
    generalize Ft.first fs n = A at *
    unfold Ft.step
    by_cases c0 : (fs n).c = 0
    · rw [if_pos c0]
      refine ⟨?_, fun i hi hc => ?_⟩
      · rcases h1 with h1 | ⟨i, hi, h, hc⟩
        · exact Or.inl h1
        · exact Or.inr ⟨i, by omega, h, hc⟩
      · by_cases hin : i = n
        · subst hin; exact absurd c0 hc
        · exact h2 i (by omega) hc
    · rw [if_neg c0]
      by_cases ha : A.c = 0 ∨ (fs n).o < A.o
      · rw [if_pos ha]
        refine ⟨Or.inr ⟨n, by omega, rfl, c0⟩, fun i hi hc => ⟨c0, ?_⟩⟩
        by_cases hin : i = n
        · subst hin; omega
        · have := h2 i (by omega) hc
          rcases ha with ha | ha
          · exact absurd ha this.1
          · omega
      · rw [if_neg ha]
        refine ⟨?_, fun i hi hc => ?_⟩
        · rcases h1 with h1 | ⟨i, hi, h, hc⟩
          · exact Or.inl h1
          · exact Or.inr ⟨i, by omega, h, hc⟩
        · by_cases hin : i = n
          · subst hin; exact ⟨fun h => ha (Or.inl h), fun h => ha (Or.inr h)⟩
          · exact h2 i (by omega) hc
def inB (A : Ft) (fs : Nat → Ft) : Nat → Bool
  | 0 => decide (A = ⟨0, 0, 0, 0⟩)
  | j + 1 => inB A fs j || decide (fs j = A)
theorem inB_true {A : Ft} {fs : Nat → Ft} : ∀ n, (A = ⟨0, 0, 0, 0⟩ ∨ ∃ i, i < n ∧ fs i = A) → inB A fs n = true
  | 0, h => by
    rcases h with h | ⟨i, hi, _⟩
    · exact decide_eq_true h
    · omega
  | n + 1, h => by
    rw [inB, Bool.or_eq_true]
    rcases h with h | ⟨i, hi, h⟩
    · exact Or.inl (inB_true n (Or.inl h))
    · by_cases e : i = n
      · subst e; exact Or.inr (decide_eq_true h)
      · exact Or.inl (inB_true n (Or.inr ⟨i, by omega, h⟩))
theorem FtAt.grown {w w' : World} {b : Nat} {f : Ft} {row : Option Nat} (h : FtAt w b f) (hg : w.grownBy w' row) (hne : some b ≠ row) : FtAt w' b f :=
  ⟨Nat.lt_of_lt_of_le h.lt hg.size, (hg.cell_far ⟨b, 0, none⟩ h.lt hne).trans h.c0, (hg.cell_far ⟨b, 1, none⟩ h.lt hne).trans h.c1, (hg.cell_far ⟨b, 2, none⟩ h.lt hne).trans h.c2, (hg.cell_far ⟨b, 3, none⟩ h.lt hne).trans h.c3, fun o => (hg.frozen_far ⟨b, o, none⟩ h.lt hne).trans (h.fr o)⟩

theorem trod_fault {H : Type} {enc : TypeId × Value → H} {W : World} {base : Nat} {sp : Nat → Bool} {held : Bool} {fuel : Nat} {cs : List Value} {x : DataW H × List MemPlace}
    (h : DataW.trod enc Try.prog W base sp held fuel 30 cs = some x) : ∃ f : Ft, cs = f.cells := by
  obtain ⟨xs, n, rfl, _, hlen, hxs, hf⟩ := DataW.trod_struct Try.underlying30 h
  have hc : Try.prog.cellsOf 30 = 4 := by kernel_rfl
  rw [hc] at hlen
  match cs, hlen with
  | [u0, u1, u2, u3], _ =>
    have hs : xs.length = 2 := by rw [hxs]; rfl
    match xs, hs with
    | [x0, x1], _ =>
      have h0 := hf 0 _ rfl
      have h1 := hf 1 _ rfl
      have c0 : Try.prog.cellsOf 28 = 1 := by kernel_rfl
      have c1 : Try.prog.cellsOf 26 = 3 := by kernel_rfl
      have ci : Try.prog.cellsOf 3 = 1 := by kernel_rfl
      simp only [List.getElem_toArray, List.getElem_cons_zero, List.getElem_cons_succ, c0, c1] at h0 h1
      obtain ⟨a, e0, _, _⟩ := DataW.trod_int Try.underlying28 h0
      obtain ⟨ys, m, rfl, _, _, hys, hg⟩ := DataW.trod_struct Try.underlying26 h1
      have hs : ys.length = 3 := by rw [hys]; rfl
      match ys, hs with
      | [y0, y1, y2], _ =>
        have g0 := hg 0 _ rfl
        have g1 := hg 1 _ rfl
        have g2 := hg 2 _ rfl
        simp only [List.getElem_toArray, List.getElem_cons_zero, List.getElem_cons_succ, ci] at g0 g1 g2
        obtain ⟨b, e1, _, _⟩ := DataW.trod_int Try.underlying3 g0
        obtain ⟨c, e2, _, _⟩ := DataW.trod_int Try.underlying3 g1
        obtain ⟨d, e3, _, _⟩ := DataW.trod_int Try.underlying3 g2
        simp at e0 e1 e2 e3
        exact ⟨⟨a, b, c, d⟩, by rw [e0, e1, e2, e3]; rfl⟩

theorem ftRow_of {H : Type} {enc : TypeId × Value → H} {W : World} {base : Nat} {sp : Nat → Bool} {held : Bool} {v : Value} {d : DataW H} {p : List MemPlace}
    (hv : Value.okWide Try.prog W .any 0 22 v) (h : DataW.Trod enc Try.prog W base sp held 22 v d p) : ∃ n fs, FtRow W v n fs := by
  obtain ⟨a, len, cap, rfl⟩ := okWide_slice Try.underlying22 hv
  obtain ⟨fuel, hf⟩ := h
  rcases open_slice Try.underlying22 hf with ⟨hcs, _⟩ | ⟨a', len', cap', m, k, D, Pl, hcs, hb, hl, hm, hmm, _, hi⟩
  · simp [Value.cells] at hcs
    obtain ⟨rfl, rfl, rfl⟩ := hcs
    exact ⟨0, fun _ => Ft.zero, none, 0, rfl, Nat.le_refl _, by unfold maxLen; omega, fun h => absurd h (by omega)⟩
  · simp [Value.cells] at hcs
    obtain ⟨rfl, rfl, rfl⟩ := hcs
    have hlen : len ≤ m := by rw [hmm]; split <;> omega
    have hC : Try.prog.cellsOf 30 = 4 := by kernel_rfl
    have hall : ∀ i, ∃ f : Ft, i < len → ∀ j, j < 4 → W.cell? (a'.add (i * 4 + j)) = f.cells[j]? := fun i => by
      by_cases hil : i < len
      · obtain ⟨cs', hc, ht⟩ := hi i (by omega)
        obtain ⟨f, rfl⟩ := trod_fault ht
        rw [hC] at hc
        obtain ⟨_, _, hat⟩ := World.cells?_some hc
        refine ⟨f, fun _ j hj => ?_⟩
        rw [← Go.Deep.add_add, hat j hj]
      · exact ⟨Ft.zero, fun h => absurd h hil⟩
    obtain ⟨fs, hfs⟩ := Classical.axiomOfChoice hall
    refine ⟨len, fs, some a', cap, rfl, hl, hm, fun h0 => ?_⟩
    have h00 := hfs 0 h0 0 (by omega)
    obtain ⟨b, off, spot⟩ := a'
    have hspot : spot = none := by simpa [Addr.add] using World.cell?_spot h00
    subst hspot
    refine ⟨b, off, rfl, ?_, fun i hil => ?_⟩
    · have := cell_lt h00
      simpa [Addr.add] using this
    · have g : ∀ j, j < 4 → W.cell? ⟨b, off + i * 4 + j, none⟩ = (fs i).cells[j]? := fun j hj => by
        rw [← hfs i hil j hj, Go.WideShapes.add_plain, Nat.add_assoc]
      exact ⟨g 0 (by omega), g 1 (by omega), g 2 (by omega), g 3 (by omega)⟩

end Go.Proofs.Ytpejphfggfppdaa
