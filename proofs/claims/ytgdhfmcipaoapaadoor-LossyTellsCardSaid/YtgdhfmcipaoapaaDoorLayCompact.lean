/- The library's Compact laid at rows of texts. -/
import Derived.Test.YtgdhfmcipaoapaaDoorChecked
import Derived.Shelf.SlicesG.CompactS
set_option maxRecDepth 100000
set_option linter.unusedVariables false
set_option linter.unusedSimpArgs false
namespace Go.Proofs.YtgdhfmcipaoapaaDoor
open Go.Shelf

def compactSt_ren : Go.Shelf.Ren := ⟨fun | 44 => 16 | n => n, fun | 25 => 22 | 26 => 9 | 3 => 3 | 4 => 4 | 0 => 0 | n => n, fun | n => n⟩
theorem compactSt : SlLaysN.n44 Tryd.prog compactSt_ren := {
  mixed := by kernel_rfl,
  f44 := ⟨Tryd.f16.name, by decide, Tryd.func16.trans (congrArg some (by kernel_rfl))⟩,
  t0 := Tryd.underlying0,
  a0 := Tryd.isAgg0,
  z0 := Tryd.sizeOf0,
  v0 := Tryd.zeroValue0,
  t3 := Tryd.underlying3,
  a3 := Tryd.isAgg3,
  z3 := Tryd.sizeOf3,
  v3 := Tryd.zeroValue3,
  t4 := Tryd.underlying4,
  a4 := Tryd.isAgg4,
  z4 := Tryd.sizeOf4,
  v4 := Tryd.zeroValue4,
  t25 := Tryd.underlying22,
  a25 := Tryd.isAgg22,
  z25 := Tryd.sizeOf22,
  v25 := Tryd.zeroValue22,
  t26 := Tryd.underlying9,
  a26 := Tryd.isAgg9,
  z26 := Tryd.sizeOf9,
  v26 := Tryd.zeroValue9,
  i26 := by kernel_rfl }

end Go.Proofs.YtgdhfmcipaoapaaDoor
