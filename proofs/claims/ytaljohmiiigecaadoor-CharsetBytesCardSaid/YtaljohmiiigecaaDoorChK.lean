/- The laws' own look at what is known of charset (layer 12). -/
import Derived.Test.YtaljohmiiigecaaDoorChB
set_option maxRecDepth 100000
set_option linter.unusedVariables false
set_option linter.unusedSimpArgs false
namespace Go.Proofs.YtaljohmiiigecaaDoor
open Go.RowKit

set_option maxHeartbeats 1000000 in
theorem chknown_calls (w : World) (hT : ChT w) : Calls Tryd.prog 6 #[] w fun e w' => e = .returned (.bool true) ∧ Below w.heap.size w w' := by
  have k1 := fun W hW => chis_calls 1 0 [97, 58, 98, 95, 57] W (by decide) hW
  rw [show Ch.isName 1 0 [97, 58, 98, 95, 57] = true by decide +kernel] at k1
  have k2 := fun W hW => chis_calls 1 1 [97, 58, 98] W (by decide) hW
  rw [show Ch.isName 1 1 [97, 58, 98] = false by decide +kernel] at k2
  have k3 := fun W hW => chbad_calls 1 0 [97, 46, 98] W (by decide) hW
  rw [show Ch.bad 1 0 [97, 46, 98] = 1 by decide +kernel] at k3
  have k4 := fun W hW => chlegal_calls 3 0 [97, 46, 98] 1 W (by decide) hW
  rw [show Ch.legI 3 0 [97, 46, 98] 1 = true by decide +kernel] at k4
  have k5 := fun W hW => chlegal_calls 3 0 [97, 46, 46, 98] 2 W (by decide) hW
  rw [show Ch.legI 3 0 [97, 46, 46, 98] 2 = false by decide +kernel] at k5
  have k6 := fun W hW => chis_calls 2 0 [32, 97, 44, 98] W (by decide) hW
  rw [show Ch.isName 2 0 [32, 97, 44, 98] = true by decide +kernel] at k6
  have k7 := fun W hW => chis_calls 2 0 [35, 97] W (by decide) hW
  rw [show Ch.isName 2 0 [35, 97] = false by decide +kernel] at k7
  have k8 := fun W hW => chis_calls 4 1 [97, 46, 98, 45, 99] W (by decide) hW
  rw [show Ch.isName 4 1 [97, 46, 98, 45, 99] = true by decide +kernel] at k8
  have k9 := fun W hW => chbad_calls 9 0 [97] W (by decide) hW
  rw [show Ch.bad 9 0 [97] = 0 by decide +kernel] at k9
  go_enter Tryd.func6, Tryd.ntmps6
  go_wp2_with fail
  refine (k1 _ hT).mono ?_; rintro e w1 ⟨rfl, b1⟩
  have t1 := hT.below b1
  go_wp2_with fail
  refine (k2 _ t1).mono ?_; rintro e w2 ⟨rfl, b2⟩
  have t2 := t1.below b2
  go_wp2_with fail
  refine (k3 _ t2).mono ?_; rintro e w3 ⟨rfl, b3⟩
  have t3 := t2.below b3
  go_wp2_with fail
  refine (k4 _ t3).mono ?_; rintro e w4 ⟨rfl, b4⟩
  have t4 := t3.below b4
  go_wp2_with fail
  refine (k5 _ t4).mono ?_; rintro e w5 ⟨rfl, b5⟩
  have t5 := t4.below b5
  go_wp2_with fail
  refine (k6 _ t5).mono ?_; rintro e w6 ⟨rfl, b6⟩
  have t6 := t5.below b6
  go_wp2_with fail
  refine (k7 _ t6).mono ?_; rintro e w7 ⟨rfl, b7⟩
  have t7 := t6.below b7
  go_wp2_with fail
  refine (k8 _ t7).mono ?_; rintro e w8 ⟨rfl, b8⟩
  have t8 := t7.below b8
  go_wp2_with fail
  refine (k9 _ t8).mono ?_; rintro e w9 ⟨rfl, b9⟩
  go_wp2
  go_ret
  exact ⟨rfl, trans9 (trans9 (trans9 (trans9 (trans9 (trans9 (trans9 (trans9 b1 b2) b3) b4) b5) b6) b7) b8) b9⟩

end Go.Proofs.YtaljohmiiigecaaDoor
