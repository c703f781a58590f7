/- Texts as lists of their bytes: how long, which byte, what is cut out, what is put together. -/
import Derived.Test.YtaloimbffijalaaDoorBase
import Derived.Lib.Strings
import Derived.Laws.Strings3
set_option maxRecDepth 100000
set_option linter.unusedVariables false
set_option linter.unusedSimpArgs false
namespace Go.Proofs.YtaloimbffijalaaDoor
open Go.RowKit

/-- a text of these bytes -/
abbrev str (l : List UInt8) : ByteArray := ⟨l.toArray⟩
theorem str_size (l : List UInt8) : (str l).size = l.length := by rw [Lib.size_eq]
theorem ext_list (s : ByteArray) (a b : Nat) : (s.extract a b).data.toList = (s.data.toList.take b).drop a := by
  rw [ByteArray.data_extract, Array.toList_extract, List.extract_eq_take_drop, List.drop_take]
theorem str_ext {a : ByteArray} {l : List UInt8} (h : a.data.toList = l) : a = str l := ByteArray.ext (by rw [← h])
theorem str_self (s : ByteArray) : s = str s.data.toList := str_ext rfl
theorem str_head (c : UInt8) (l : List UInt8) (h : 0 < (str (c :: l)).size) : (str (c :: l))[0] = c := rfl
theorem str_tail (c : UInt8) (l : List UInt8) : (str (c :: l)).extract 1 (l.length + 1) = str l := str_ext (by rw [ext_list]; simp)
theorem str_init (i : List UInt8) (x : UInt8) : (str (i ++ [x])).extract 0 i.length = str i := str_ext (by rw [ext_list]; simp)
theorem str_last (i : List UInt8) (x : UInt8) (h : i.length < (str (i ++ [x])).size) : (str (i ++ [x]))[i.length] = x := by
  show (i ++ [x]).toArray[i.length]'(by simp) = x
  simp
theorem str_at (l : List UInt8) (i : Nat) (h : i < (str l).size) : (str l)[i] = l[i]'(by rw [str_size] at h; exact h) := rfl
theorem str_app (a b : List UInt8) : str a ++ str b = str (a ++ b) := str_ext (by rw [ByteArray.data_append, Array.toList_append])
theorem add_str (a b : List UInt8) (h : a.length + b.length ≤ 140737488351232) (W : World) : (Op.stringOp .add (str a) (str b)).run Tryd.prog W = .ok (.string (str (a ++ b))) W := by
  rw [run_string_add_sum W _ _ (by rw [str_size, str_size]; omega), str_app]
theorem cut_to (l : List UInt8) (k : Int) (j : Nat) (hk : k = j) (h : j ≤ l.length) (W : World) : (Instr.slice 9 (.string (str l)) none (some (.int .i64 k)) none).run Tryd.prog W = .ok (.string (str (l.take j))) W := by
  subst hk
  rw [run_slice_string_to_if W _ _ _ _ Tryd.underlying9, if_pos ⟨by omega, by rw [str_size]; omega⟩]
  congr 2
  exact str_ext (by rw [ext_list]; simp)
theorem cut_from (l : List UInt8) (k : Int) (j : Nat) (hk : k = j) (h : j ≤ l.length) (W : World) : (Instr.slice 9 (.string (str l)) (some (.int .i64 k)) none none).run Tryd.prog W = .ok (.string (str (l.drop j))) W := by
  subst hk
  rw [run_slice_string_from_if W _ _ _ _ Tryd.underlying9, if_pos ⟨by omega, by rw [str_size]; omega⟩]
  congr 2
  exact str_ext (by rw [ext_list, str_size]; simp)

end Go.Proofs.YtaloimbffijalaaDoor
