/- The walk of the laws' known answers. -/
import Derived.Test.YtmbpldnclnahmaaDoorStampB
set_option maxRecDepth 100000
set_option linter.unusedVariables false
set_option linter.unusedSimpArgs false
namespace Go.Proofs.YtmbpldnclnahmaaDoor
open Go.RowKit Dc

theorem digs15 : digs 15 = [1, 5] := by rw [digs_pos (by decide), show 15 / 10 = 1 from rfl, digs_pos (by decide), show 1 / 10 = 0 from rfl, digs_zero]; rfl
theorem text_15 : textO 1500 = [49, 46, 53] := by
  have h : sOf 1500 = some (15, 1) := by decide
  unfold textO
  rw [h]
  show printL 15 1 = _
  unfold printL
  rw [show (15 : Int).natAbs = 15 from rfl, digs15]
  decide
theorem text_out : textO 1125899906842625 = [] := by
  have h : sOf 1125899906842625 = none := by decide
  unfold textO
  rw [h]
theorem k_int1 (w : World) : Calls Tryd.prog 8 #[.string ⟨#[45, 49, 50]⟩] w fun e w' => e = .returned (.tuple #[.int .i64 (-12), .int .i64 0, .int .i64 0]) ∧ Below w.heap.size w w' := by
  have h := int_calls [45, 49, 50] w (by decide)
  rwa [show intO [45, 49, 50] = (-12, 0, 0) by decide] at h
theorem k_int2 (w : World) : Calls Tryd.prog 8 #[.string ⟨#[49, 120]⟩] w fun e w' => e = .returned (.tuple #[.int .i64 0, .int .i64 11, .int .i64 1]) ∧ Below w.heap.size w w' := by
  have h := int_calls [49, 120] w (by decide)
  rwa [show intO [49, 120] = (0, 11, 1) by decide] at h
theorem k_uint (w : World) : Calls Tryd.prog 10 #[.string ⟨#[45, 49]⟩] w fun e w' => e = .returned (.tuple #[.int .i64 0, .int .i64 11, .int .i64 0]) ∧ Below w.heap.size w w' := by
  have h := uint_calls [45, 49] w (by decide)
  rwa [show uintO [45, 49] = (0, 11, 0) by decide] at h
theorem k_ms (w : World) (hp : Pl w) : Calls Tryd.prog 16 #[.int .i64 1500000, .int .i64 2] w fun e w' => e = .returned (.tuple #[.int .i64 1500, .bool true]) ∧ Below w.heap.size w w' := by
  have h := ms_calls 1500000 2 w hp (by omega) (by omega)
  rwa [show msO 1500000 2 = some 1500 from (msO_iff 1500000 2 (by omega) (by omega) (by omega) 1500).2 ⟨by decide, by decide⟩] at h
theorem k_of1 (w : World) (hp : Pl w) : Calls Tryd.prog 18 #[.int .i64 1500, .int .i64 0] w fun e w' => e = .returned (.tuple #[.int .i64 0, .bool false]) ∧ Below w.heap.size w w' := by
  have h := of_calls 1500 0 w hp (by omega) (by omega)
  rwa [show ofO 1500 0 = none by rw [← ofO_ref]; decide] at h
theorem k_of2 (w : World) (hp : Pl w) : Calls Tryd.prog 18 #[.int .i64 1500, .int .i64 3] w fun e w' => e = .returned (.tuple #[.int .i64 1500000000, .bool true]) ∧ Below w.heap.size w w' := by
  have h := of_calls 1500 3 w hp (by omega) (by omega)
  rwa [show ofO 1500 3 = some 1500000000 by rw [← ofO_ref]; decide] at h
theorem k_sec (w : World) (hp : Pl w) : Calls Tryd.prog 12 #[dv2 15 1] w fun e w' => e = .returned (.tuple #[.int .i64 1500, .bool true]) ∧ Below w.heap.size w w' := by
  have h := sec_calls 15 1 w hp (by omega) (by omega)
  rwa [show secO 15 1 = some 1500 by decide] at h
theorem k_text1 (w : World) (hp : Pl w) : Calls Tryd.prog 14 #[.int .i64 1500] w fun e w' => e = .returned (.string ⟨#[49, 46, 53]⟩) ∧ Below w.heap.size w w' := by
  have h := text_calls 1500 w hp (by omega) (by omega)
  rwa [text_15] at h
theorem k_text2 (w : World) (hp : Pl w) : Calls Tryd.prog 14 #[.int .i64 1125899906842625] w fun e w' => e = .returned (.string ⟨#[]⟩) ∧ Below w.heap.size w w' := by
  have h := text_calls 1125899906842625 w hp (by omega) (by omega)
  rwa [text_out] at h

set_option maxHeartbeats 4000000 in
theorem known_calls (w : World) (hp : Pl w) :
    Calls Tryd.prog 7 #[] w fun e w' => e = .returned (.bool true) ∧ Below w.heap.size w w' := by
  have kB := Below.refl w.heap.size w
  go_enter Tryd.func7, Tryd.ntmps7
  go_wp2_with fail
  refine (k_int1 _).mono ?_; rintro e w1 ⟨rfl, b⟩
  replace kB := kB.trans (b.mono kB.size); replace hp := hp.below b; clear b
  go_wp2_with fail
  refine (k_int2 _).mono ?_; rintro e w2 ⟨rfl, b⟩
  replace kB := kB.trans (b.mono kB.size); replace hp := hp.below b; clear b
  go_wp2_with fail
  refine (k_uint _).mono ?_; rintro e w3 ⟨rfl, b⟩
  replace kB := kB.trans (b.mono kB.size); replace hp := hp.below b; clear b
  go_wp2_with fail
  refine (k_ms _ hp).mono ?_; rintro e w4 ⟨rfl, b⟩
  replace kB := kB.trans (b.mono kB.size); replace hp := hp.below b; clear b
  go_wp2_with fail
  refine (k_of1 _ hp).mono ?_; rintro e w5 ⟨rfl, b⟩
  replace kB := kB.trans (b.mono kB.size); replace hp := hp.below b; clear b
  go_wp2_with fail
  refine (k_of2 _ hp).mono ?_; rintro e w6 ⟨rfl, b⟩
  replace kB := kB.trans (b.mono kB.size); replace hp := hp.below b; clear b
  go_wp2_with fail
  refine (k_sec _ hp).mono ?_; rintro e w7 ⟨rfl, b⟩
  replace kB := kB.trans (b.mono kB.size); replace hp := hp.below b; clear b
  go_wp2_with fail
  refine (k_text1 _ hp).mono ?_; rintro e w8 ⟨rfl, b⟩
  replace kB := kB.trans (b.mono kB.size); replace hp := hp.below b; clear b
  go_wp2_with fail
  refine (k_text2 _ hp).mono ?_; rintro e w9 ⟨rfl, b⟩
  replace kB := kB.trans (b.mono kB.size); clear b
  go_wp2_with fail
  go_ret
  exact ⟨rfl, kB⟩

end Go.Proofs.YtmbpldnclnahmaaDoor
