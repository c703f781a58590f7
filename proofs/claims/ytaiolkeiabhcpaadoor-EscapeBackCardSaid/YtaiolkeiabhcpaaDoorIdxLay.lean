/- The library's strings.Index laid at this program: its bodies and their types, by number. -/
import Derived.Test.YtaiolkeiabhcpaaDoorChecked
import Derived.Shelf.Strings.Search3
set_option maxRecDepth 100000
set_option linter.unusedVariables false
set_option linter.unusedSimpArgs false
namespace Go.Proofs.YtaiolkeiabhcpaaDoor
open Go.Shelf

def layIndex_ren : Go.Shelf.Ren := ⟨fun | 143 => 23 | 219 => 33 | 217 => 37 | 225 => 38 | 224 => 39 | 267 => 40 | 266 => 41 | 314 => 42 | n => n, fun | 9 => 9 | 3 => 3 | 4 => 4 | 5 => 5 | 46 => 46 | 146 => 67 | 51 => 66 | n => n, fun | 1 => 2 | n => n⟩
theorem layIndex : Lays.n143 Tryd.prog layIndex_ren := {
  mixed := by kernel_rfl,
  f143 := Tryd.func23.trans (congrArg some (by kernel_rfl)),
  f217 := Tryd.func37.trans (congrArg some (by kernel_rfl)),
  f219 := Tryd.func33.trans (congrArg some (by kernel_rfl)),
  f224 := Tryd.func39.trans (congrArg some (by kernel_rfl)),
  f225 := Tryd.func38.trans (congrArg some (by kernel_rfl)),
  f266 := Tryd.func41.trans (congrArg some (by kernel_rfl)),
  f267 := Tryd.func40.trans (congrArg some (by kernel_rfl)),
  f314 := Tryd.func42.trans (congrArg some (by kernel_rfl)),
  t3 := Tryd.underlying3,
  a3 := Tryd.isAgg3,
  z3 := Tryd.sizeOf3,
  v3 := Tryd.zeroValue3,
  t4 := Tryd.underlying4,
  a4 := Tryd.isAgg4,
  z4 := Tryd.sizeOf4,
  v4 := Tryd.zeroValue4,
  t5 := Tryd.underlying5,
  a5 := Tryd.isAgg5,
  z5 := Tryd.sizeOf5,
  v5 := Tryd.zeroValue5,
  t9 := Tryd.underlying9,
  a9 := Tryd.isAgg9,
  z9 := Tryd.sizeOf9,
  v9 := Tryd.zeroValue9,
  t46 := Tryd.underlying46,
  a46 := Tryd.isAgg46,
  z46 := Tryd.sizeOf46,
  v46 := Tryd.zeroValue46,
  t51 := Tryd.underlying66,
  a51 := Tryd.isAgg66,
  z51 := Tryd.sizeOf66,
  v51 := Tryd.zeroValue66,
  t146 := Tryd.underlying67,
  a146 := Tryd.isAgg67,
  z146 := Tryd.sizeOf67,
  v146 := Tryd.zeroValue67,
  g1 := by kernel_rfl }

end Go.Proofs.YtaiolkeiabhcpaaDoor
