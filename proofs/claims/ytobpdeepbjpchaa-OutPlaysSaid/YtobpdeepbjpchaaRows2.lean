/- A slice of slices of strings that came in. -/
import Derived.Test.YtobpdeepbjpchaaFrame
import Derived.Deep.Slices
namespace Go.Proofs.Ytobpdeepbjpchaa
open Go.ChangeShapes Go.WideShapes Go.ChangeAt Go.RowKit Go.Deep

theorem strRow_of_cells {H : Type} {enc : TypeId × Value → H} {P : Program} {W : World} {base : Nat} {sp : Nat → Bool} {held : Bool} {t e : TypeId} {fuel : Nat} {v : Value} {x : DataW H × List MemPlace}
    (ht : P.underlying t = some (.slice e)) (he : P.underlying e = some .string) (hc : P.cellsOf e = 1)
    (h : DataW.trod enc P W base sp held fuel t [v] = some x) : ∃ n es, StrRow W v n es := by
  rcases open_strings ht he hc h with ⟨hcs, _⟩ | ⟨a', len, cap, ss, hcs, _, hl, hm, hz, _, hcell, hws⟩
  · simp at hcs
    subst hcs
    exact ⟨0, fun _ => ByteArray.empty, none, 0, rfl, Nat.le_refl _, by unfold maxLen; omega, fun h => absurd h (by omega)⟩
  · simp at hcs
    subst hcs
    have hlen : len ≤ ss.length := by rw [hz]; split <;> omega
    refine ⟨len, fun i => ss.getD i ByteArray.empty, some a', cap, rfl, hl, hm, fun h0 => ?_⟩
    have h00 := hcell 0 (by omega)
    obtain ⟨b, off, spot⟩ := a'
    have hspot : spot = none := by simpa [Addr.add] using World.cell?_spot h00
    subst hspot
    refine ⟨b, off, rfl, ?_, fun i hi => ⟨by rw [← Go.WideShapes.add_plain]; exact hcell i (by omega), ?_⟩⟩
    · have := cell_lt h00
      simpa [Addr.add] using this
    · simp only [List.getD_eq_getElem?_getD]
      rw [List.getElem?_eq_getElem (show i < ss.length by omega)]
      exact hws _ (List.getElem_mem _)

/-- a slice of slices of strings that came in: how many, and which -/
def StrRows (w : World) (v : Value) (n : Nat) (k : Nat → Nat) (ess : Nat → Nat → ByteArray) : Prop :=
  ∃ a cap, v = .slice a n cap ∧ n ≤ cap ∧ cap ≤ maxLen ∧ (0 < n → ∃ b off, a = some ⟨b, off, none⟩ ∧ b < w.heap.size ∧ ∀ i, i < n → ∃ V, w.cell? ⟨b, off + i, none⟩ = some V ∧ StrRow w V (k i) (ess i))
theorem strRows_of {H : Type} {enc : TypeId × Value → H} {P : Program} {W : World} {base : Nat} {sp : Nat → Bool} {held : Bool} {t e q : TypeId} {v : Value} {d : DataW H} {p : List MemPlace}
    (ht : P.underlying t = some (.slice e)) (he : P.underlying e = some (.slice q)) (hq : P.underlying q = some .string) (hc : P.cellsOf e = 1) (hc2 : P.cellsOf q = 1) (hv : Value.okWide P W .any 0 t v)
    (h : DataW.Trod enc P W base sp held t v d p) : ∃ n k ess, StrRows W v n k ess := by
  obtain ⟨a, len, cap, rfl⟩ := okWide_slice ht hv
  obtain ⟨fuel, hf⟩ := h
  rcases open_slice1 ht hc hf with ⟨hcs, _⟩ | ⟨a', len', cap', m, nn, V, D, Pl, hcs, _, hl, hm, hmm, _, hi⟩
  · simp [Value.cells] at hcs
    obtain ⟨rfl, rfl, rfl⟩ := hcs
    exact ⟨0, fun _ => 0, fun _ _ => ByteArray.empty, none, 0, rfl, Nat.le_refl _, by unfold maxLen; omega, fun h => absurd h (by omega)⟩
  · simp [Value.cells] at hcs
    obtain ⟨rfl, rfl, rfl⟩ := hcs
    have hlen : len ≤ m := by rw [hmm]; split <;> omega
    have hall : ∀ i, ∃ r : Nat × (Nat → ByteArray), i < len → StrRow W (V i) r.1 r.2 := fun i => by
      by_cases hil : i < len
      · obtain ⟨n, es, h⟩ := strRow_of_cells he hq hc2 (hi i (by omega)).2
        exact ⟨⟨n, es⟩, fun _ => h⟩
      · exact ⟨⟨0, fun _ => ByteArray.empty⟩, fun h => absurd h hil⟩
    obtain ⟨r, hr⟩ := Classical.axiomOfChoice hall
    refine ⟨len, fun i => (r i).1, fun i => (r i).2, some a', cap, rfl, hl, hm, fun h0 => ?_⟩
    have h00 := (hi 0 (by omega)).1
    obtain ⟨b, off, spot⟩ := a'
    have hspot : spot = none := by simpa [Addr.add] using World.cell?_spot h00
    subst hspot
    refine ⟨b, off, rfl, ?_, fun i hil => ⟨V i, by rw [← Go.WideShapes.add_plain]; exact (hi i (by omega)).1, hr i hil⟩⟩
    have := cell_lt h00
    simpa [Addr.add] using this

end Go.Proofs.Ytobpdeepbjpchaa
