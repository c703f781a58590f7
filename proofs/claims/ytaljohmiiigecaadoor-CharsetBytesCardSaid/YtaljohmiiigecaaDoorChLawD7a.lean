/- The walk of the law CharsetBytes at one kind of byte. -/
import Derived.Test.YtaljohmiiigecaaDoorChLawC0
import Derived.Test.YtaljohmiiigecaaDoorChLawC9
import Derived.Deep.DeepCutAuto
import Derived.RegionTactic
import Derived.BigGuardPart
set_option maxRecDepth 100000
set_option linter.unusedVariables false
set_option linter.unusedSimpArgs false
namespace Go.Proofs.YtaljohmiiigecaaDoor
open Go.RowKit

set_option maxHeartbeats 16000000 in
theorem chb_c35_0 (x : Int) (c : UInt8) (w : World) (hx : 35 ≤ x) (hx2 : x ≤ 35) (hc : x = (c.toNat : Int)) (hT : ChT w) :
    Calls Tryd.prog 4 #[.int .u8 x, .bool false] w fun e w' => e = .returned (.bool true) ∧ Below w.heap.size w w' := by
  have hs1 : strOfNums [x] = str [c] := by rw [hc]; exact str_ext (by simp [strOfNums])
  have hs3 : strOfNums [97, x, 97] = str [97, c, 97] := by rw [hc]; exact str_ext (by simp [strOfNums])
  have r1 := fun (W : World) (b : Nat) (h : W.cell? ⟨b, 0, none⟩ = some (.int .u8 x)) => chconv1 h
  have r2 := fun (W : World) (b : Nat) (h0 : W.cell? ⟨b, 0, none⟩ = some (.int .u8 97)) (h1 : W.cell? ⟨b, 1, none⟩ = some (.int .u8 x)) (h2 : W.cell? ⟨b, 2, none⟩ = some (.int .u8 97)) => chconv3 h0 h1 h2
  rw [hs1] at r1
  rw [hs3] at r2
  have hk := Ch.kd_c35 c (by omega) (by omega)
  have ione1 := fun W hW => chis_calls 1 0 [c] W (by unfold maxLen; simp) hW
  rw [Ch.one_10, hk, show Ch.kTab [true, false, true, false, true, false, false, false, false, false, false] 6 = false from rfl] at ione1
  have itwo1 := fun W hW => chis_calls 1 0 [97, c, 97] W (by unfold maxLen; simp) hW
  rw [Ch.two_10, hk, show Ch.kTab [true, true, true, false, true, false, false, false, false, false, false] 6 = false from rfl] at itwo1
  have ione2 := fun W hW => chis_calls 2 0 [c] W (by unfold maxLen; simp) hW
  rw [Ch.one_20, hk, show Ch.kTab [true, true, true, true, true, true, false, false, true, false, false] 6 = false from rfl] at ione2
  have itwo2 := fun W hW => chis_calls 2 0 [97, c, 97] W (by unfold maxLen; simp) hW
  rw [Ch.two_20, hk, show Ch.kTab [true, true, true, true, true, true, true, false, true, false, false] 6 = true from rfl] at itwo2
  have ione3 := fun W hW => chis_calls 3 0 [c] W (by unfold maxLen; simp) hW
  rw [Ch.one_30, hk, show Ch.kTab [true, true, true, true, true, false, false, false, false, false, false] 6 = false from rfl] at ione3
  have itwo3 := fun W hW => chis_calls 3 0 [97, c, 97] W (by unfold maxLen; simp) hW
  rw [Ch.two_30, hk, show Ch.kTab [true, true, true, true, true, true, false, false, false, false, false] 6 = false from rfl] at itwo3
  have ione4 := fun W hW => chis_calls 4 0 [c] W (by unfold maxLen; simp) hW
  rw [Ch.one_40, hk, show Ch.kTab [true, true, true, true, false, true, false, false, false, false, false] 6 = false from rfl] at ione4
  have itwo4 := fun W hW => chis_calls 4 0 [97, c, 97] W (by unfold maxLen; simp) hW
  rw [Ch.two_40, hk, show Ch.kTab [true, true, true, true, false, true, false, false, false, false, false] 6 = false from rfl] at itwo4
  have d_ge97 : decide (97 ≤ x) = false := decide_eq_false (by omega)
  have d_le122 : decide (x ≤ 122) = true := decide_eq_true (by omega)
  have d_ge65 : decide (65 ≤ x) = false := decide_eq_false (by omega)
  have d_le90 : decide (x ≤ 90) = true := decide_eq_true (by omega)
  have d_ge48 : decide (48 ≤ x) = false := decide_eq_false (by omega)
  have d_le57 : decide (x ≤ 57) = true := decide_eq_true (by omega)
  have d_ge32 : decide (32 ≤ x) = true := decide_eq_true (by omega)
  have d_le126 : decide (x ≤ 126) = true := decide_eq_true (by omega)
  have b_95 : (x == 95) = false := chbeq (by omega)
  have b_45 : (x == 45) = false := chbeq (by omega)
  have b_58 : (x == 58) = false := chbeq (by omega)
  have b_46 : (x == 46) = false := chbeq (by omega)
  have c_92 : (x != 92) = true := chbne (by omega)
  clear hk hs1 hs3
  obtain rfl : x = 35 := by omega
  clear hc
  clear hx hx2
  go_enter Tryd.func4, Tryd.ntmps4
  go_wp2_with fail
  refine (chknown_calls _ hT).mono ?_; rintro e w1 ⟨rfl, b1⟩
  have B1 := Lib.hid b1
  have T1 := hT.below b1
  clear b1 hT
  have hB : ∀ A B, Below w1.heap.size w1 ((w1.alloc A).alloc B).drew := fun A B => (((Below.refl _ _).alloc (Nat.le_refl _) _).alloc (by simp) _).drew
  go_upto_region 9 with (fail)
  go_cut [9, 10] (fun s9 s10 wx => s9 = .string (str [c]) ∧ s10 = .string (str [97, c, 97]) ∧ Hid (Below w1.heap.size w1 wx))
  case first =>
    go_region
    all_goals
      go_wp2_with fail
      go_meet
      exact ⟨rfl, rfl, hB _ _⟩
  case rest =>
    obtain ⟨rfl, rfl, H2⟩ := hcut
    have T2 := T1.below H2.out
    have B2 := Lib.hid (trans9 B1.out H2.out)
    clear H2 T1 B1 hB r1 r2
    go_wp2_with fail
    refine (ione1 _ T2).mono ?_; rintro e w3 ⟨rfl, b3⟩
    have T3 := T2.below b3
    have B3 := Lib.hid (trans9 B2.out b3)
    clear b3 T2 B2 ione1
    clear d_ge97 d_le122 d_ge65 d_le90 d_ge48 d_le57 d_ge32 d_le126
    go_wp2_with fail
    refine (itwo1 _ T3).mono ?_; rintro e w4 ⟨rfl, b4⟩
    have T4 := T3.below b4
    have B4 := Lib.hid (trans9 B3.out b4)
    clear b4 T3 B3 itwo1
    go_wp2_with fail
    refine (ione2 _ T4).mono ?_; rintro e w5 ⟨rfl, b5⟩
    have T5 := T4.below b5
    have B5 := Lib.hid (trans9 B4.out b5)
    clear b5 T4 B4 ione2
    go_wp2_with fail
    refine (itwo2 _ T5).mono ?_; rintro e w6 ⟨rfl, b6⟩
    have T6 := T5.below b6
    have B6 := Lib.hid (trans9 B5.out b6)
    clear b6 T5 B5 itwo2
    go_wp2_with fail
    refine (ione3 _ T6).mono ?_; rintro e w7 ⟨rfl, b7⟩
    have T7 := T6.below b7
    have B7 := Lib.hid (trans9 B6.out b7)
    clear b7 T6 B6 ione3
    go_wp2_with fail
    refine (itwo3 _ T7).mono ?_; rintro e w8 ⟨rfl, b8⟩
    have T8 := T7.below b8
    have B8 := Lib.hid (trans9 B7.out b8)
    clear b8 T7 B7 itwo3
    go_wp2_with fail
    refine (ione4 _ T8).mono ?_; rintro e w9 ⟨rfl, b9⟩
    have T9 := T8.below b9
    have B9 := Lib.hid (trans9 B8.out b9)
    clear b9 T8 B8 ione4
    go_wp2_with fail
    refine (itwo4 _ T9).mono ?_; rintro e w10 ⟨rfl, b10⟩
    have T10 := T9.below b10
    have B10 := Lib.hid (trans9 B9.out b10)
    clear b10 T9 B9 itwo4
    go_wp2
    go_ret
    exact ⟨rfl, B10.out⟩

end Go.Proofs.YtaljohmiiigecaaDoor
