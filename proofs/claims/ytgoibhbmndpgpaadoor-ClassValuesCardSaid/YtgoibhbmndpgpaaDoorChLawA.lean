/- The walk of the law CharsetJoins. -/
import Derived.Test.YtgoibhbmndpgpaaDoorChW
import Derived.Laws.BytesArg
import Derived.Laws.OwnMore
import Derived.Lib.Builder
import Derived.Deep.DeepCutAuto
set_option maxRecDepth 100000
set_option linter.unusedVariables false
set_option linter.unusedSimpArgs false
namespace Go.Proofs.YtgoibhbmndpgpaaDoor
open Go.RowKit

namespace Ch
/-- n noughts -/
def nul (n : Nat) : List UInt8 := List.replicate n 0
theorem nul_text {w : World} {b n : Nat} (h : ∀ j, j < n → w.cell? ⟨b, j, none⟩ = some (.int .u8 0)) : (convert 47 9 (.slice (some ⟨b, 0, none⟩) n n)).run Tryd.prog w = .ok (.string (str (nul n))) w := by
  have e : strOfNums (List.replicate n 0) = str (nul n) := by
    unfold strOfNums nul
    rw [List.map_replicate]
    rfl
  rw [← e]
  exact run_convert_bytes_arg w 47 5 Tryd.underlying47 Tryd.underlying5 b 0 n n (List.replicate n 0) (by simp) (fun i hi => by
    rw [Nat.zero_add, h i hi]; simp [hi]) 9 Tryd.underlying9
theorem nul_made (w : World) (n : Nat) (t : TypeId) : ∀ j, j < n → (w.alloc (.cells (madeCells #[.int .u8 0] n) t)).cell? ⟨w.heap.size, j, none⟩ = some (.int .u8 0) := fun j hj => by
  have hb : (w.alloc (.cells (madeCells #[.int .u8 0] n) t)).heap[w.heap.size]? = some (.cells (madeCells #[.int .u8 0] n) t (0, 0)) := heap_alloc_new w _
  rw [Lib.cell_of_heap hb]
  rw [← Array.getElem?_toList, toList_madeCells_one]
  simp [hj]
theorem nul_make (n : Nat) (hn : n ≤ 20000) (w : World) : (Instr.makeSlice 47 (.int .i64 (n : Int)) (.int .i64 (n : Int))).run Tryd.prog w = .ok (.slice (some ⟨w.heap.size, 0, none⟩) n n) (w.alloc (.cells (madeCells #[.int .u8 0] n) 5)) := by
  obtain ⟨i, hi, hz, h1, h2⟩ := info_parts (P := Tryd.prog) (t := 5) (z := .int .u8 0) (n := 1) (m := 1) (by kernel_rfl)
  have h := run_make (P := Tryd.prog) w 47 5 i (.int .u8 0) Tryd.underlying47 hi hz .i64 .i64 n n (by omega) (by omega) (by rw [h2]; omega) (by omega)
  rw [h, h1]
  simp [Value.cells]
end Ch

end Go.Proofs.YtgoibhbmndpgpaaDoor
