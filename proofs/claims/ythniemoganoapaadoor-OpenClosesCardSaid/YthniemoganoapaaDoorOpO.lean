/- Small lemmas of the laws of layer 17: the tables, texts joined, slices of texts that came in. -/
import Derived.Test.YthniemoganoapaaDoorOpN
import Derived.Test.YthniemoganoapaaDoorGrd
set_option maxRecDepth 100000
set_option linter.unusedVariables false
set_option linter.unusedSimpArgs false
namespace Go.Proofs.YthniemoganoapaaDoor
open Go.RowKit

theorem add_st (a b : List UInt8) (h : a.length + b.length ≤ 140737488351232) (W : World) : (Op.stringOp .add (str a) (str b)).run Tryd.prog W = .ok (.string (str (a ++ b))) W := by
  rw [run_string_add_sum W _ _ (by rw [str_size, str_size]; omega), str_app]
theorem OwT.up {w W : World} (h : OwT w w.heap.size) (hb : Below w.heap.size w W) : OwT W W.heap.size :=
  have k := h.kept (fun j hj => hb.block j hj)
  ⟨k.cls, k.sts, k.shp, k.mks, Nat.lt_of_lt_of_le h.l0 hb.size, Nat.lt_of_lt_of_le h.l1 hb.size, Nat.lt_of_lt_of_le h.l2 hb.size, Nat.lt_of_lt_of_le h.l3 hb.size⟩
theorem srow_keep {w w' : World} {v : Value} {n : Nat} {es : Nat → ByteArray} (h : StrRow w v n es) (hb : Below w.heap.size w w') : StrRow w' v n es := by
  obtain ⟨a, cap, rfl, h1, h2, h3⟩ := h
  refine ⟨a, cap, rfl, h1, h2, fun h0 => ?_⟩
  obtain ⟨b, off, rfl, hlt, hc⟩ := h3 h0
  exact ⟨b, off, rfl, Nat.lt_of_lt_of_le hlt hb.size, fun i hi => ⟨(hb.cell (p := ⟨b, off + i, none⟩) hlt).trans (hc i hi).1, (hc i hi).2⟩⟩

end Go.Proofs.YthniemoganoapaaDoor
