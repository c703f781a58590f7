/- The texts FrameRow, one behind the other. -/
import Derived.Test.YthniemoganoapaaDoorGrd
import Derived.Test.YthniemoganoapaaDoorRows
import Derived.LaidMore
import Derived.Lay
import Derived.Deep.DeepHandedRow
import Derived.Stop.Joined
import Derived.MakeChecks

/- What the frames by rows share: an input that fits, at the world that holds what the row lists; the bound of a narrowed row; how long a text of a slice that came in is. -/
set_option linter.unusedVariables false
set_option linter.unusedSimpArgs false
namespace Go.Proofs.YthniemoganoapaaDoor
open Go.ChangeShapes Go.WideShapes Go.ChangeAt Go.RowKit

theorem witness_row9 {H : Type} {enc : TypeId × Value → H} {C : Checked} {os : Os} {f : FuncId} {fn : Func} {s : OpenSpec} {conds : List PathCond} {apart : Bool} {laid : List (String × DataW Unit)} (modest : Bool) (w0 : World) (args : Array Value) (hos : w0.os = os)
    (hsh : (w0.forCall (fun _ _ => 0) ⟨#[], args, []⟩).Shaped C.prog)
    (hok : Input.okWideB C.prog (w0.forCall (fun _ _ => 0) ⟨#[], args, []⟩) f ⟨#[], args, []⟩ = true)
    (hrow : s.preRow enc C.prog fn conds apart laid (w0.forCall (fun _ _ => 0) ⟨#[], args, []⟩).memory args) :
    ∃ (w : World) (tape : Tape) (i : Input), w.os = os ∧ (w.forCall tape i).Shaped C.prog ∧ i.vars = [] ∧ Input.okWide C.prog (w.forCall tape i) .any w.heap.size f i ∧
      s.preRow enc C.prog fn conds apart laid (w.forCall tape i).memory i.args ∧ ({ modest := modest } : Assume).holds C.prog (lone (Frame.enter C.prog f i.args .normal) [] (w.forCall tape i)) :=
  ⟨w0, fun _ _ => 0, ⟨#[], args, []⟩, hos, hsh, (Input.okWide_of_okWideB (base := 0) hok).1, (Input.okWide_of_okWideB hok).2, hrow, by
    simp only [Assume.holds]
    exact ⟨by simp, by simp, fun _ => Modest.zero, by simp, by simp⟩⟩

theorem bulk_part {H : Type} {d : DataW H} {l : List (DataW H)} (h : d ∈ l) : Rows.uptoBulk d ≤ Rows.uptoBulkAll l := by
  induction l with
  | nil => cases h
  | cons x r ih =>
    simp only [Rows.uptoBulkAll]
    cases List.mem_cons.1 h with
    | inl e => subst e; omega
    | inr e => have := ih e; omega
theorem bulk_bound {H : Type} {l : List (DataW H)} (hk : Rows.uptoSmall H l = true) : Rows.uptoBulkAll l ≤ 1048576 := of_decide_eq_true hk
/-- a slice of texts that came in, and how long each is -/
theorem strRow_bulk {H : Type} {enc : TypeId × Value → H} {P : Program} {W : World} {base : Nat} {sp : Nat → Bool} {held : Bool} {t e : TypeId} {v : Value} {d : DataW H} {p : List MemPlace}
    (ht : P.underlying t = some (.slice e)) (he : P.underlying e = some .string) (hc : P.cellsOf e = 1) (hv : Value.okWide P W .any 0 t v)
    (h : DataW.Trod enc P W base sp held t v d p) : ∃ n es, StrRow W v n es ∧ ∀ i, i < n → (es i).size ≤ Rows.uptoBulk d := by
  obtain ⟨a, len, cap, rfl⟩ := okWide_slice ht hv
  obtain ⟨fuel, hf⟩ := h
  rcases open_strings ht he hc hf with ⟨hcs, _⟩ | ⟨a', len', cap', ss, hcs, _, hl, hm, hz, hx, hcell, hws⟩
  · simp [Value.cells] at hcs
    obtain ⟨rfl, rfl, rfl⟩ := hcs
    exact ⟨0, fun _ => ByteArray.empty, ⟨none, 0, rfl, Nat.le_refl _, by unfold maxLen; omega, fun h => absurd h (by omega)⟩, fun i hi => absurd hi (by omega)⟩
  · simp [Value.cells] at hcs
    obtain ⟨rfl, rfl, rfl⟩ := hcs
    have hlen : len ≤ ss.length := by rw [hz]; split <;> omega
    refine ⟨len, fun i => ss.getD i ByteArray.empty, ⟨some a', cap, rfl, hl, hm, fun h0 => ?_⟩, fun i hi => ?_⟩
    · have h00 := hcell 0 (by omega)
      obtain ⟨b, off, spot⟩ := a'
      have hspot : spot = none := by simpa [Addr.add] using World.cell?_spot h00
      subst hspot
      refine ⟨b, off, rfl, ?_, fun i hi => ⟨by rw [← Go.WideShapes.add_plain]; exact hcell i (by omega), ?_⟩⟩
      · have := cell_lt h00
        simpa [Addr.add] using this
      · simp only [List.getD_eq_getElem?_getD]
        rw [List.getElem?_eq_getElem (show i < ss.length by omega)]
        exact hws _ (List.getElem_mem _)
    · have hd : d = .slice (strs (ss.take len)) (strs (ss.drop len)) := congrArg Prod.fst hx
      rw [hd]
      simp only [List.getD_eq_getElem?_getD]
      rw [List.getElem?_eq_getElem (show i < ss.length by omega)]
      have hm : (DataW.lit (H := H) (.string (ss[i]'(by omega)).data.toList)) ∈ strs (ss.take len) := by
        unfold strs
        refine List.mem_map.2 ⟨ss[i]'(by omega), ?_, rfl⟩
        rw [List.mem_take_iff_getElem]
        exact ⟨i, by omega, rfl⟩
      have hb := bulk_part hm
      have h1 : Rows.uptoBulk (DataW.lit (H := H) (.string (ss[i]'(by omega)).data.toList)) = (ss[i]'(by omega)).data.toList.length + 1 := by simp [Rows.uptoBulk]
      have h2 : (ss[i]'(by omega)).size = (ss[i]'(by omega)).data.toList.length := Lib.size_eq _
      simp only [Rows.uptoBulk, Option.getD_some] at hb h1 ⊢
      omega

end Go.Proofs.YthniemoganoapaaDoor
