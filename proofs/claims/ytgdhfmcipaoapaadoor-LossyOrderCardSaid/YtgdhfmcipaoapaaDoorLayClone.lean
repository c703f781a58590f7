/- The library's Clone laid at rows of texts. -/
import Derived.Test.YtgdhfmcipaoapaaDoorChecked
import Derived.Shelf.SlicesG.Clone
set_option maxRecDepth 100000
set_option linter.unusedVariables false
set_option linter.unusedSimpArgs false
namespace Go.Proofs.YtgdhfmcipaoapaaDoor
open Go.Shelf

def cloneSt_ren : Go.Shelf.Ren := ⟨fun | 42 => 14 | n => n, fun | 25 => 22 | 26 => 9 | 4 => 4 | n => n, fun | n => n⟩
theorem cloneSt : SlLaysN.n42 Tryd.prog cloneSt_ren := {
  mixed := by kernel_rfl,
  f42 := ⟨Tryd.f14.name, by decide, Tryd.func14.trans (congrArg some (by kernel_rfl))⟩,
  t4 := Tryd.underlying4,
  a4 := Tryd.isAgg4,
  z4 := Tryd.sizeOf4,
  v4 := Tryd.zeroValue4,
  t25 := Tryd.underlying22,
  a25 := Tryd.isAgg22,
  z25 := Tryd.sizeOf22,
  v25 := Tryd.zeroValue22,
  t26 := Tryd.underlying9,
  a26 := Tryd.isAgg9,
  z26 := Tryd.sizeOf9,
  v26 := Tryd.zeroValue9,
  i26 := by kernel_rfl }

end Go.Proofs.YtgdhfmcipaoapaaDoor
