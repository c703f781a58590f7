/- The walk of the law CharsetBytes. -/
import Derived.Test.YtaljohmiiigecaaDoorChLawD0a
import Derived.Test.YtaljohmiiigecaaDoorChLawD0b
import Derived.Test.YtaljohmiiigecaaDoorChLawD1a
import Derived.Test.YtaljohmiiigecaaDoorChLawD1b
import Derived.Test.YtaljohmiiigecaaDoorChLawD2a
import Derived.Test.YtaljohmiiigecaaDoorChLawD2b
import Derived.Test.YtaljohmiiigecaaDoorChLawD3a
import Derived.Test.YtaljohmiiigecaaDoorChLawD3b
import Derived.Test.YtaljohmiiigecaaDoorChLawD4a
import Derived.Test.YtaljohmiiigecaaDoorChLawD4b
import Derived.Test.YtaljohmiiigecaaDoorChLawD5a
import Derived.Test.YtaljohmiiigecaaDoorChLawD5b
import Derived.Test.YtaljohmiiigecaaDoorChLawD6a
import Derived.Test.YtaljohmiiigecaaDoorChLawD6b
import Derived.Test.YtaljohmiiigecaaDoorChLawD7a
import Derived.Test.YtaljohmiiigecaaDoorChLawD7b
import Derived.Test.YtaljohmiiigecaaDoorChLawD8a
import Derived.Test.YtaljohmiiigecaaDoorChLawD8b
import Derived.Test.YtaljohmiiigecaaDoorChLawD9a
import Derived.Test.YtaljohmiiigecaaDoorChLawD9b
import Derived.Test.YtaljohmiiigecaaDoorChLawD10a
import Derived.Test.YtaljohmiiigecaaDoorChLawD10b
import Derived.Test.YtaljohmiiigecaaDoorChLawD11a
import Derived.Test.YtaljohmiiigecaaDoorChLawD11b
set_option maxRecDepth 100000
set_option linter.unusedVariables false
set_option linter.unusedSimpArgs false
namespace Go.Proofs.YtaljohmiiigecaaDoor
open Go.RowKit

theorem bytesc_walk (x : Int) (what : Bool) (w : World) (hx : 0 ≤ x) (hx2 : x ≤ 255) (hT : ChT w) :
    Calls Tryd.prog 4 #[.int .u8 x, .bool what] w fun e w' => e = .returned (.bool true) ∧ Below w.heap.size w w' := by
  obtain ⟨c, hc⟩ : ∃ c : UInt8, x = (c.toNat : Int) := ⟨UInt8.ofNat x.toNat, by rw [UInt8.toNat_ofNat']; omega⟩
  rcases Ch.kd_all c with hk | h | h | h | h | h | h | h | h | h | h | h
  · cases what
    · exact chb_other_0 x c w hk hc hT
    · exact chb_other_1 x c w hk hc hT
  · cases what
    · exact chb_lower_0 x c w (by omega) (by omega) hc hT
    · exact chb_lower_1 x c w (by omega) (by omega) hc hT
  · cases what
    · exact chb_upper_0 x c w (by omega) (by omega) hc hT
    · exact chb_upper_1 x c w (by omega) (by omega) hc hT
  · cases what
    · exact chb_digit_0 x c w (by omega) (by omega) hc hT
    · exact chb_digit_1 x c w (by omega) (by omega) hc hT
  · cases what
    · exact chb_c95_0 x c w (by omega) (by omega) hc hT
    · exact chb_c95_1 x c w (by omega) (by omega) hc hT
  · cases what
    · exact chb_c45_0 x c w (by omega) (by omega) hc hT
    · exact chb_c45_1 x c w (by omega) (by omega) hc hT
  · cases what
    · exact chb_c58_0 x c w (by omega) (by omega) hc hT
    · exact chb_c58_1 x c w (by omega) (by omega) hc hT
  · cases what
    · exact chb_c46_0 x c w (by omega) (by omega) hc hT
    · exact chb_c46_1 x c w (by omega) (by omega) hc hT
  · cases what
    · exact chb_c35_0 x c w (by omega) (by omega) hc hT
    · exact chb_c35_1 x c w (by omega) (by omega) hc hT
  · cases what
    · exact chb_c92_0 x c w (by omega) (by omega) hc hT
    · exact chb_c92_1 x c w (by omega) (by omega) hc hT
  · cases what
    · exact chb_low_0 x c w (by omega) (by omega) hc hT
    · exact chb_low_1 x c w (by omega) (by omega) hc hT
  · cases what
    · exact chb_high_0 x c w (by omega) (by omega) hc hT
    · exact chb_high_1 x c w (by omega) (by omega) hc hT

end Go.Proofs.YtaljohmiiigecaaDoor
