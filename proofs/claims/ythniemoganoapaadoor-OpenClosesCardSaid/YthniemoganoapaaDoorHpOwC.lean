/- The walk of polyglothelp.Close at the open format; the law OpenCloses (layer 17). -/
import Derived.Test.YthniemoganoapaaDoorHpOwB
import Derived.Test.YthniemoganoapaaDoorOwClose
import Derived.Test.YthniemoganoapaaDoorOpO
set_option maxRecDepth 100000
set_option linter.unusedVariables false
set_option linter.unusedSimpArgs false
namespace Go.Proofs.YthniemoganoapaaDoor
open Go.RowKit
attribute [local go_sem ↓] Go.wp_at_zero Go.wp_at_succ

namespace Ow
def endE (i : Nat) : List UInt8 := ends.getD i []
def restE (r : Nat) : List UInt8 := rests.getD r []
/-- an end that does not serve -/
def noE (s : List UInt8) (r i j : Nat) : Prop := 0 ≤ bad (s ++ (restE r ++ (endE i).drop j))
end Ow
theorem ow_end_cell (i : Nat) (h : i < 4) : (#[.string ⟨#[97, 123, 97, 61, 34, 110, 34, 125, 32, 49, 46, 49, 32, 49, 46, 49, 10, 35, 32, 69, 79, 70]⟩, .string ⟨#[35, 32, 84, 89, 80, 69, 32, 97, 32, 97, 10, 35, 32, 69, 79, 70]⟩, .string ⟨#[35, 32, 85, 78, 73, 84, 32, 97, 32, 97, 10, 35, 32, 69, 79, 70]⟩, .string ⟨#[35, 32, 72, 69, 76, 80, 32, 97, 32, 110, 10, 35, 32, 69, 79, 70]⟩] : Array Value)[i]? = some (.string (str (Ow.endE i))) ∧ (Ow.endE i).length ≤ 30 := by
  rcases (by omega : i = 0 ∨ i = 1 ∨ i = 2 ∨ i = 3) with rfl | rfl | rfl | rfl <;> exact ⟨rfl, by decide⟩
theorem ow_rest_cell (i : Nat) (h : i < 9) : (#[.string ⟨#[]⟩, .string ⟨#[128]⟩, .string ⟨#[160]⟩, .string ⟨#[144]⟩, .string ⟨#[128, 128]⟩, .string ⟨#[160, 128]⟩, .string ⟨#[144, 128]⟩, .string ⟨#[128, 128, 128]⟩, .string ⟨#[144, 128, 128]⟩] : Array Value)[i]? = some (.string (str (Ow.restE i))) ∧ (Ow.restE i).length ≤ 3 := by
  rcases (by omega : i = 0 ∨ i = 1 ∨ i = 2 ∨ i = 3 ∨ i = 4 ∨ i = 5 ∨ i = 6 ∨ i = 7 ∨ i = 8) with rfl | rfl | rfl | rfl | rfl | rfl | rfl | rfl | rfl <;> exact ⟨rfl, by decide⟩

set_option maxHeartbeats 32000000 in
theorem hclose_calls (s : List UInt8) (w : World) (hs : s.length ≤ 400) (hex : ∃ r i j : Nat, r < 9 ∧ i < 4 ∧ j ≤ (Ow.endE i).length ∧ Ow.bad (s ++ (Ow.restE r ++ (Ow.endE i).drop j)) = -1) :
    Calls Tryd.prog 16 #[.int .i64 1, .string (str s)] w fun e w' => (∃ t, e = .returned (.tuple #[.string (str t), .bool true]) ∧ Ow.bad (s ++ t) < 0 ∧ t.length ≤ 40) ∧ Below w.heap.size w w' := by
  have HEX := Lib.hid hex
  clear hex
  obtain ⟨W1, hW1⟩ : ∃ X, X = (w.alloc (.cells #[.string ⟨#[97, 123, 97, 61, 34, 110, 34, 125, 32, 49, 46, 49, 32, 49, 46, 49, 10, 35, 32, 69, 79, 70]⟩, .string ⟨#[35, 32, 84, 89, 80, 69, 32, 97, 32, 97, 10, 35, 32, 69, 79, 70]⟩, .string ⟨#[35, 32, 85, 78, 73, 84, 32, 97, 32, 97, 10, 35, 32, 69, 79, 70]⟩, .string ⟨#[35, 32, 72, 69, 76, 80, 32, 97, 32, 110, 10, 35, 32, 69, 79, 70]⟩] 9)).alloc (.cells #[.string ⟨#[]⟩, .string ⟨#[128]⟩, .string ⟨#[160]⟩, .string ⟨#[144]⟩, .string ⟨#[128, 128]⟩, .string ⟨#[160, 128]⟩, .string ⟨#[144, 128]⟩, .string ⟨#[128, 128, 128]⟩, .string ⟨#[144, 128, 128]⟩] 9) := ⟨_, rfl⟩
  have B1 := Lib.hid (show Below w.heap.size w W1 by rw [hW1]; exact ((Below.refl _ _).alloc (Nat.le_refl _) _).alloc (by simp) _)
  have hz1 : w.heap.size + 1 < W1.heap.size := by rw [hW1, al_size, al_size]; omega
  have HE := Lib.hid (fun i (h : i < 4) W (hb : Below W1.heap.size W1 W) => show W.cell? ⟨w.heap.size, i, none⟩ = some (.string (str (Ow.endE i))) by
    rw [hb.cell (p := ⟨w.heap.size, i, none⟩) (show w.heap.size < _ by omega), hW1]
    rw [((Below.refl (w.heap.size + 1) (w.alloc (.cells #[.string ⟨#[97, 123, 97, 61, 34, 110, 34, 125, 32, 49, 46, 49, 32, 49, 46, 49, 10, 35, 32, 69, 79, 70]⟩, .string ⟨#[35, 32, 84, 89, 80, 69, 32, 97, 32, 97, 10, 35, 32, 69, 79, 70]⟩, .string ⟨#[35, 32, 85, 78, 73, 84, 32, 97, 32, 97, 10, 35, 32, 69, 79, 70]⟩, .string ⟨#[35, 32, 72, 69, 76, 80, 32, 97, 32, 110, 10, 35, 32, 69, 79, 70]⟩] 9))).alloc (Nat.le_of_eq (al_size _ _).symm) (.cells #[.string ⟨#[]⟩, .string ⟨#[128]⟩, .string ⟨#[160]⟩, .string ⟨#[144]⟩, .string ⟨#[128, 128]⟩, .string ⟨#[160, 128]⟩, .string ⟨#[144, 128]⟩, .string ⟨#[128, 128, 128]⟩, .string ⟨#[144, 128, 128]⟩] 9)).cell (p := ⟨w.heap.size, i, none⟩) (Nat.lt_succ_self _)]
    rw [cell_of_row _ _ _ _ _ _ (heap_alloc_new w _)]; exact (ow_end_cell i h).1)
  have HR := Lib.hid (fun i (h : i < 9) W (hb : Below W1.heap.size W1 W) => show W.cell? ⟨w.heap.size + 1, i, none⟩ = some (.string (str (Ow.restE i))) by
    rw [hb.cell (p := ⟨w.heap.size + 1, i, none⟩) hz1, hW1]
    have := cell_of_row _ _ i _ _ _ (heap_alloc_new (w.alloc (.cells #[.string ⟨#[97, 123, 97, 61, 34, 110, 34, 125, 32, 49, 46, 49, 32, 49, 46, 49, 10, 35, 32, 69, 79, 70]⟩, .string ⟨#[35, 32, 84, 89, 80, 69, 32, 97, 32, 97, 10, 35, 32, 69, 79, 70]⟩, .string ⟨#[35, 32, 85, 78, 73, 84, 32, 97, 32, 97, 10, 35, 32, 69, 79, 70]⟩, .string ⟨#[35, 32, 72, 69, 76, 80, 32, 97, 32, 110, 10, 35, 32, 69, 79, 70]⟩] 9)) (.cells #[.string ⟨#[]⟩, .string ⟨#[128]⟩, .string ⟨#[160]⟩, .string ⟨#[144]⟩, .string ⟨#[128, 128]⟩, .string ⟨#[160, 128]⟩, .string ⟨#[144, 128]⟩, .string ⟨#[128, 128, 128]⟩, .string ⟨#[144, 128, 128]⟩] 9))
    rw [al_size] at this
    rw [this]; exact (ow_rest_cell i h).1)
  have HBad := Lib.hid (fun t W (h : (t : List UInt8).length ≤ 1000) => hbad_calls t W (by omega))
  have HW1 := Lib.hid hW1
  clear hW1
  go_enter Tryd.func16, Tryd.ntmps16
  go_upto_region 11 with fail
  rw [← HW1.out]
  clear HW1
  go_wp2_with fail
  go_loopw [8] (fun v wr => ∃ r : Nat, r ≤ 9 ∧ v = .int .i64 r ∧ Hid (Below W1.heap.size W1 wr) ∧ Hid (∀ r' < r, ∀ i < 4, ∀ j ≤ (Ow.endE i).length, Ow.noE s r' i j)) (fun v _ => 9 - (intOf v).toNat)
  case atStart => exact ⟨0, Nat.zero_le _, rfl, Lib.hid (Below.refl _ _), Lib.hid (fun r' h => absurd h (Nat.not_lt_zero _))⟩
  case round =>
    obtain ⟨r, hr, rfl, HB, HN⟩ := hrel
    by_cases hr9 : r < 9
    rotate_left
    · exfalso
      obtain ⟨r', i, j, h1, h2, h3, h4⟩ := HEX.out
      have := HN.out r' (by omega) i h2 j h3
      unfold Ow.noE at this
      omega
    have d1 : decide ((r : Int) < 9) = true := decide_eq_true (by omega)
    have hwr : IntKind.i64.wrap ((r : Int) + 1) = ((r + 1 : Nat) : Int) := by rw [show (r : Int) + 1 = ((r + 1 : Nat) : Int) by omega]; exact IntWalk.i64_in _ (by omega)
    rename World => wo
    go_wp2_with fail
    go_loopw [9] (fun v wx => ∃ i : Nat, i ≤ 4 ∧ v = .int .i64 i ∧ Hid (Below W1.heap.size W1 wx) ∧ Hid (∀ i' < i, ∀ j ≤ (Ow.endE i').length, Ow.noE s r i' j)) (fun v _ => 4 - (intOf v).toNat)
    case atStart => exact ⟨0, Nat.zero_le _, rfl, HB, Lib.hid (fun r' h => absurd h (Nat.not_lt_zero _))⟩
    case round =>
      clear HB
      obtain ⟨i, hi, rfl, HB, HM⟩ := hrel
      by_cases hi4 : i < 4
      rotate_left
      · have d2 : decide ((i : Int) < 4) = false := decide_eq_false (by omega)
        have HN2 := Lib.hid (show ∀ r' < r + 1, ∀ i < 4, ∀ j ≤ (Ow.endE i).length, Ow.noE s r' i j by
          intro r' h i' hi' j hj
          by_cases e : r' = r
          · rw [e]; exact HM.out i' (by omega) j hj
          · exact HN.out r' (by omega) i' hi' j hj)
        clear HM HN
        go_wp2
        go_roundw
        case rel => exact ⟨r + 1, hr9, by go_num, HB, HN2⟩
        case measure => simp [intOf]; omega
      have d2 : decide ((i : Int) < 4) = true := decide_eq_true (by omega)
      have hwi : IntKind.i64.wrap ((i : Int) + 1) = ((i + 1 : Nat) : Int) := by rw [show (i : Int) + 1 = ((i + 1 : Nat) : Int) by omega]; exact IntWalk.i64_in _ (by omega)
      rename World => wp
      go_wp2_with fail
      go_loopw [10] (fun v wx => ∃ k : Nat, k ≤ (Ow.endE i).length + 1 ∧ v = .int .i64 k ∧ Hid (Below W1.heap.size W1 wx) ∧ Hid (∀ j < k, Ow.noE s r i j)) (fun v _ => (Ow.endE i).length + 1 - (intOf v).toNat)
      case atStart => exact ⟨0, Nat.zero_le _, rfl, HB, Lib.hid (fun r' h => absurd h (Nat.not_lt_zero _))⟩
      case round =>
        clear HB
        obtain ⟨k, hk, rfl, HB, HJ⟩ := hrel
        have z1 := HE.out i hi4 wr HB.out
        have z2 := HR.out r hr9 wr HB.out
        have hl1 := (ow_end_cell i hi4).2
        have hl2 := (ow_rest_cell r hr9).2
        have hNo := Lib.hid (show Ow.noE s r i k = (0 ≤ Ow.bad (s ++ (Ow.restE r ++ (Ow.endE i).drop k))) from rfl)
        obtain ⟨E, hE⟩ : ∃ E, E = Ow.endE i := ⟨_, rfl⟩
        obtain ⟨R, hR⟩ : ∃ R, R = Ow.restE r := ⟨_, rfl⟩
        rw [← hE] at z1 hl1 hk hNo
        rw [← hR] at z2 hl2 hNo
        have HEE := Lib.hid hE
        clear hE hR
        have hsE := str_size E
        by_cases hkE : k ≤ E.length
        rotate_left
        · have d3 : decide ((k : Int) ≤ (E.length : Int)) = false := decide_eq_false (by omega)
          have d3' : decide (k ≤ E.length) = false := decide_eq_false hkE
          have HM2 := Lib.hid (show ∀ i' < i + 1, ∀ j ≤ (Ow.endE i').length, Ow.noE s r i' j by
            intro i' h j hj
            by_cases e : i' = i
            · rw [e] at hj ⊢; exact HJ.out j (by rw [← HEE.out] at hj; omega)
            · exact HM.out i' (by omega) j hj)
          clear HJ HM hNo
          go_wp2
          go_roundw
          case rel => exact ⟨i + 1, hi4, by go_num, HB, HM2⟩
          case measure => simp [intOf]; omega
        have d3 : decide ((k : Int) ≤ (E.length : Int)) = true := decide_eq_true (by omega)
        have d3' : decide (k ≤ E.length) = true := decide_eq_true hkE
        have hwk : IntKind.i64.wrap ((k : Int) + 1) = ((k + 1 : Nat) : Int) := by rw [show (k : Int) + 1 = ((k + 1 : Nat) : Int) by omega]; exact IntWalk.i64_in _ (by omega)
        have hcut := cut_off E (k : Int) k rfl hkE
        have hdl : (E.drop k).length ≤ 30 := by rw [List.length_drop]; omega
        have hadd1 := add_st R (E.drop k) (by omega)
        have htl : (R ++ E.drop k).length ≤ 33 := by rw [List.length_append]; omega
        have hadd2 := add_st s (R ++ E.drop k) (by omega)
        have hC := HBad.out (s ++ (R ++ E.drop k)) wr (by rw [List.length_append]; omega)
        have hC2 := Lib.hid (fun W => HBad.out (s ++ (R ++ E.drop k)) W (by rw [List.length_append]; omega))
        clear hC
        obtain ⟨Bd, hBd⟩ : ∃ B, B = Ow.bad (s ++ (R ++ E.drop k)) := ⟨_, rfl⟩
        rw [← hBd] at hC2 hNo
        have HBd := Lib.hid hBd
        clear hBd
        by_cases h0 : Bd < 0
        · have d4 : decide (Bd < 0) = true := decide_eq_true h0
          have hres := Lib.hid (show Ow.bad (s ++ (R ++ E.drop k)) < 0 by rw [← HBd.out]; exact h0)
          clear HJ HM hNo HBd HEE
          go_upto_region 20 with fail
          go_quiet (fail)
          go_wp2_with fail
          refine (hC2.out _).mono ?_; rintro e w9 ⟨rfl, b9⟩
          have HB9 := Lib.hid (tr17 B1.out (tr17 (tr17 HB.out (below_drewN (Below.refl _ _) _)) b9))
          go_wp2
          go_ret2
          exact ⟨⟨_, rfl, hres.out, by omega⟩, HB9.out⟩
        · have d4 : decide (Bd < 0) = false := decide_eq_false h0
          have HJ2 := Lib.hid (show ∀ j < k + 1, Ow.noE s r i j by
            intro j hj
            by_cases e : j = k
            · rw [e, hNo.out]; omega
            · exact HJ.out j (by omega))
          clear HJ hNo HBd
          have hkk : k + 1 ≤ (Ow.endE i).length + 1 := by rw [← HEE.out]; omega
          go_upto_region 20 with fail
          go_quiet (fail)
          go_wp2_with fail
          refine (hC2.out _).mono ?_; rintro e w9 ⟨rfl, b9⟩
          have HBn := Lib.hid (tr17 (tr17 HB.out (below_drewN (Below.refl _ _) _)) b9)
          clear b9
          go_wp2
          go_roundw
          case rel => exact ⟨k + 1, hkk, by go_num, HBn, HJ2⟩
          case measure => simp [intOf]; omega

end Go.Proofs.YthniemoganoapaaDoor
