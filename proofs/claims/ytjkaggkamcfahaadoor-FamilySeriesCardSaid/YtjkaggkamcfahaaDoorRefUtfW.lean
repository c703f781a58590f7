/- The texts RefUtfA, one behind the other. -/
import Derived.Test.YtjkaggkamcfahaaDoorRows
import Derived.Test.YtjkaggkamcfahaaDoorUtfP
import Derived.WalkKit
import Derived.WalkSpells
import Derived.WalkLawsBesides
import Derived.Handy
import Derived.Lib.Hide

/- The reference's functions on UTF-8: span, Front, Bad, Count. -/
set_option maxRecDepth 100000
set_option linter.unusedVariables false
set_option linter.unusedSimpArgs false
namespace Go.Proofs.YtjkaggkamcfahaaDoor
open Go.RowKit

theorem upto_one (c : UInt8) (cs : List UInt8) (bs : List (Int × Int)) : Utf.Upto (((c.toNat : Int), (c.toNat : Int)) :: bs) (c :: cs) 1 :=
  Utf.upto_yes (Utf.upto_zero _ _) rfl rfl (Utf.inR_true (Int.le_refl _) (Int.le_refl _))
theorem spanB_at (c : Int) (k : Nat) (h1 : 1 ≤ k) (h : (k : Int) < (Utf.spanI c).1) : (Utf.spanB c)[k]? = some (if k = 1 then (Utf.spanI c).2 else (128, 191)) := by
  have := Utf.spanI_range c
  have hk : k = 1 ∨ k = 2 ∨ k = 3 := by omega
  unfold Utf.spanB
  rcases hk with rfl | rfl | rfl <;> simp [List.getElem?_take] <;> omega

end Go.Proofs.YtjkaggkamcfahaaDoor
