/- The walk of the laws' own 'known'. -/
import Derived.Test.YtaloimbffijalaaDoorLabelK
set_option maxRecDepth 100000
set_option linter.unusedVariables false
set_option linter.unusedSimpArgs false
namespace Go.Proofs.YtaloimbffijalaaDoor
open Go.RowKit Go.Sort
attribute [local go_sem ↓] Go.wp_at_zero Go.wp_at_succ

theorem ks_row {w : World} {v : Value} (h : LbRow w v ks) : ∃ b off cap, v = .slice (some ⟨b, off, none⟩) 2 cap ∧ b < w.heap.size ∧ w.cell? ⟨b, off, none⟩ = some (.string ⟨#[97]⟩) := by
  obtain ⟨A, cap, rfl, _, _, _, hr⟩ := h
  obtain ⟨b, off, rfl, hb, hc⟩ := hr (by simp [ks])
  exact ⟨b, off, cap, rfl, hb, by have := (hc 0 ([97], [50]) rfl).1; simpa using this⟩
theorem k1_row {w : World} {v : Value} (h : LbRow w v [([98], [49])]) : ∃ b off cap, v = .slice (some ⟨b, off, none⟩) 1 cap ∧ b < w.heap.size ∧ w.cell? ⟨b, off, none⟩ = some (.string ⟨#[98]⟩) := by
  obtain ⟨A, cap, rfl, _, _, _, hr⟩ := h
  obtain ⟨b, off, rfl, hb, hc⟩ := hr (by simp)
  exact ⟨b, off, cap, rfl, hb, by have := (hc 0 ([98], [49]) rfl).1; simpa using this⟩
def kes (i : Nat) : ByteArray := if i = 0 then ⟨#[97]⟩ else ⟨#[99]⟩
theorem kes_row (w : World) : StrRow (w.alloc (.cells #[.string ⟨#[97]⟩, .string ⟨#[99]⟩] 9)) (.slice (some ⟨w.heap.size, 0, none⟩) 2 2) 2 kes :=
  ⟨_, 2, rfl, Nat.le_refl _, by unfold maxLen; omega, fun _ => ⟨w.heap.size, 0, rfl, by simp, fun i hi => by
    rcases (by omega : i = 0 ∨ i = 1) with rfl | rfl
    · exact ⟨by simp [kes], by show 1 ≤ maxLen; unfold maxLen; omega⟩
    · exact ⟨by simp [kes], by show 1 ≤ maxLen; unfold maxLen; omega⟩⟩⟩
theorem k_row1 (w : World) : LbRow (w.alloc (.cells #[.string ⟨#[98]⟩, .string ⟨#[49]⟩, .string ⟨#[97]⟩, .string ⟨#[50]⟩] 38)) (.slice (some ⟨w.heap.size, 0, none⟩) 2 2) [([98], [49]), ([97], [50])] :=
  lb_block (l := [([98], [49]), ([97], [50])]) (heap_new _ _) rfl (by unfold maxLen; simp)
theorem k_row2 (w : World) : LbRow (w.alloc (.cells #[.string ⟨#[97]⟩, .string ⟨#[]⟩, .string ⟨#[97]⟩, .string ⟨#[120]⟩] 38)) (.slice (some ⟨w.heap.size, 0, none⟩) 2 2) [([97], []), ([97], [120])] :=
  lb_block (l := [([97], []), ([97], [120])]) (heap_new _ _) rfl (by unfold maxLen; simp)
set_option maxHeartbeats 4000000 in
theorem known_calls (w : World) (hT : ShapesIn w) : Calls Tryd.prog 7 #[] w fun e w' => e = .returned (.bool true) ∧ Below w.heap.size w w' := by
  have HT := Lib.hid (fun W (hW : Below w.heap.size w W) => hT.below hW hT.room)
  clear hT
  go_enter Tryd.func7, Tryd.ntmps7
  go_wp2_with fail
  refine (k_sort1 _ _ (k_row1 w)).mono ?_; rintro e w1 ⟨v1, rfl, b1, row1⟩
  have B1 := Lib.hid (trans9 (kp_alloc (Below.refl _ _) _) b1)
  clear b1
  go_wp2_with fail
  refine (k_sort2 _ _ (k_row2 w1)).mono ?_; rintro e w2 ⟨v2, rfl, b2⟩
  have b12 := trans9 (kp_alloc (Below.refl _ _) _) b2
  have B2 := Lib.hid (trans9 B1.out b12)
  have R2 := Lib.hid (row1.below b12)
  clear b2 b12 row1
  go_wp2_with fail
  refine (k_get _ _ R2.out).mono ?_; rintro e w3 ⟨rfl, b3⟩
  have b34 := kp_alloc b3 (.cells #[.string ⟨#[97]⟩, .string ⟨#[99]⟩] 9)
  have R3 := Lib.hid (R2.out.below b34)
  have B3 := Lib.hid (trans9 B2.out b34)
  clear b3 b34
  go_wp2_with fail
  refine (k_without _ _ _ kes R3.out (kes_row w3) rfl rfl).mono ?_; rintro e w4 ⟨v4, rfl, b4, row4⟩
  have B4 := Lib.hid (trans9 B3.out b4)
  have R4 := Lib.hid (R3.out.below b4)
  have S4 := Lib.hid row4
  clear b4
  obtain ⟨ba, oa, ca, rfl, hba, hca⟩ := ks_row R4.out
  obtain ⟨bb, ob, cb4, rfl, hbb, hcb⟩ := k1_row row4
  clear row4
  go_wp2_with fail
  refine (k_cmp _ _ _ S4.out R4.out).mono ?_; rintro e w5 ⟨rfl, b5⟩
  have B5 := Lib.hid (trans9 B4.out b5)
  have R5 := Lib.hid (R4.out.below b5)
  clear b5
  go_wp2_with fail
  refine (k_good _ _ R5.out (HT.out _ B5.out)).mono ?_; rintro e w6 ⟨rfl, b6⟩
  have B6 := Lib.hid (trans9 B5.out b6)
  clear b6
  go_wp2_with fail
  refine (k_name1 _ (HT.out _ B6.out)).mono ?_; rintro e w7 ⟨rfl, b7⟩
  have B7 := Lib.hid (trans9 B6.out b7)
  clear b7
  go_wp2_with fail
  refine (k_name2 _ (HT.out _ B7.out)).mono ?_; rintro e w8 ⟨rfl, b8⟩
  have B8 := Lib.hid (trans9 B7.out b8)
  clear b8
  go_wp2_with fail
  refine (k_name3 _ (HT.out _ B8.out)).mono ?_; rintro e w9 ⟨rfl, b9⟩
  have B9 := Lib.hid (trans9 B8.out b9)
  clear b9
  go_wp2_with fail
  refine (k_value1 _ (HT.out _ B9.out)).mono ?_; rintro e w10 ⟨rfl, b10⟩
  have B10 := Lib.hid (trans9 B9.out b10)
  clear b10
  go_wp2_with fail
  refine (k_value2 _ (HT.out _ B10.out)).mono ?_; rintro e w11 ⟨rfl, b11⟩
  have B11 := Lib.hid (trans9 B10.out b11)
  clear b11
  go_wp2
  go_ret
  exact ⟨rfl, B11.out⟩

end Go.Proofs.YtaloimbffijalaaDoor
