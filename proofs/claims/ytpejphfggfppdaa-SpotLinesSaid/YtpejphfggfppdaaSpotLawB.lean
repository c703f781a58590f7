/- The walk of the law SpotLines. -/
import Derived.Test.YtpejphfggfppdaaSpotK
import Derived.Test.YtpejphfggfppdaaFrame
namespace Go.Proofs.Ytpejphfggfppdaa
open Go.RowKit
attribute [local go_sem ↓] Go.wp_at_zero Go.wp_at_succ

theorem str_add_size (a : ByteArray) (c : UInt8) : (a ++ (⟨#[c]⟩ : ByteArray)).size = a.size + 1 := by rw [ByteArray.size_append]; rfl

set_option maxHeartbeats 2000000 in
theorem lines_walk (v : Value) (n : Nat) (z : Nat → Int) (ends : Bool) (w : World) (hv : IntRow w .u8 v n z) :
    Calls Try.prog 4 #[v, .bool ends] w fun e w' => e = .returned (.bool true) ∧ Below w.heap.size w w' := by
  obtain ⟨a, cap, rfl, hnc, hcm, hcell⟩ := hv
  unfold maxLen at hcm
  by_cases hn : n ≤ 20
  · have dn : decide ((20 : Int) < (n : Int)) = false := by simp; omega
    have Hcell := Lib.hid hcell
    clear hcell
    go_enter Try.func4, Try.ntmps4
    go_wp2_with fail
    refine (known_calls _).mono ?_; rintro e w1 ⟨rfl, b1⟩
    go_wp2_with fail
    go_loopw [5, 6, 7] (fun s i _ wr => ∃ (S : ByteArray) (j : Nat), j ≤ n ∧ S.size ≤ 12 * j ∧ s = .string S ∧ i = .int .i64 j ∧ Below w.heap.size w wr) (fun _ i _ _ => n - (intOf i).toNat)
    case atStart => exact ⟨ByteArray.empty, 0, by omega, by decide, rfl, rfl, b1⟩
    case round =>
      obtain ⟨S, j, hj, hS, rfl, rfl, hb⟩ := hrel
      by_cases hjn : j < n
      · obtain ⟨b, off, rfl, hbs, hcs⟩ := Hcell.out (by omega)
        obtain ⟨hc1, hw1⟩ := hcs j hjn
        have hz := u8_bounds hw1
        have c1 := (hb.cell hbs).trans hc1
        clear hcs hc1 hw1
        generalize z j = x at *
        have hx0 := Int.emod_nonneg x (show (12 : Int) ≠ 0 by decide)
        have hx1 := Int.emod_lt_of_pos x (show (0 : Int) < 12 by decide)
        go_wp2_with fail
        go_loop [5, 7] (fun s q => ∃ (S : ByteArray) (k : Nat), k ≤ 11 ∧ S.size ≤ 12 * j + k ∧ s = .string S ∧ q = .int .i64 k) (fun _ q => 12 - (intOf q).toNat)
        case atStart => exact ⟨S, 0, by omega, by omega, rfl, rfl⟩
        case round =>
          obtain ⟨S, k, hk, hS, rfl, rfl⟩ := hrel
          have hadd : ∀ w : World, (Op.stringOp .add S ⟨#[120]⟩).run Try.prog w = .ok (.string (S ++ ⟨#[120]⟩)) w := fun w => run_string_add_sum w _ _ (by rw [show (⟨#[120]⟩ : ByteArray).size = 1 from rfl]; omega)
          by_cases hkx : (k : Int) < x % 12
          · go_wp2
            go_round
            case rel => exact ⟨_, k + 1, by omega, by rw [str_add_size]; omega, rfl, by go_num⟩
            case measure => simp [intOf]; omega
          · have hk2 : ¬ (k : Int) < x % 12 := hkx
            have hadd2 : ∀ w : World, (Op.stringOp .add S ⟨#[10]⟩).run Try.prog w = .ok (.string (S ++ ⟨#[10]⟩)) w := fun w => run_string_add_sum w _ _ (by rw [show (⟨#[10]⟩ : ByteArray).size = 1 from rfl]; omega)
            clear hadd
            cases ends
            · by_cases hl : (j : Int) < (n : Int) - 1
              · have dl : decide ((j : Int) < (n : Int) - 1) = true := by simpa using hl
                go_wp2
                go_roundw
                case rel => exact ⟨_, j + 1, by omega, by rw [str_add_size]; omega, rfl, by go_num, hb⟩
                case measure => simp [intOf]; omega
              · have dl : decide ((j : Int) < (n : Int) - 1) = false := by simpa using hl
                go_wp2
                go_roundw
                case rel => exact ⟨S, j + 1, by omega, by omega, rfl, by go_num, hb⟩
                case measure => simp [intOf]; omega
            · by_cases hl : (j : Int) < (n : Int) - 1
              all_goals
                go_wp2
                go_roundw
                case rel => exact ⟨_, j + 1, by omega, by rw [str_add_size]; omega, rfl, by go_num, hb⟩
                case measure => simp [intOf]; omega
      · obtain rfl : n = j := by omega
        have hS2 : S.size ≤ 240 := by omega
        have hz := Sp.at_zero S
        go_wp2_with fail
        go_loopw [8, 9, 10] (fun l c i wr => ∃ (k L C : Nat), k ≤ S.size + 1 ∧ L ≤ S.size + 1 ∧ C ≤ S.size + 2 ∧ i = .int .i64 k ∧ l = .int .i64 L ∧ c = .int .i64 C ∧ Hid (k ≤ S.size → L = Sp.line S k ∧ C = Sp.col S k) ∧ Below w.heap.size w wr) (fun _ _ i _ => S.size + 1 - (intOf i).toNat)
        case atStart => exact ⟨0, 1, 1, by omega, by omega, by omega, rfl, rfl, rfl, fun _ => ⟨hz.1.symm, hz.2.symm⟩, hb⟩
        case round =>
          obtain ⟨k, L, C, hk, hL, hC, rfl, rfl, rfl, H, hb⟩ := hrel
          by_cases hks : k ≤ S.size
          · obtain ⟨rfl, rfl⟩ := H.out hks
            have oc := fun W => of_calls S k W (by omega)
            have eq := fun W => eql_spot k (Sp.line S k) (Sp.col S k) k (Sp.line S k) (Sp.col S k) W
            rw [Sp.off_in S k hks] at oc
            have h1 := Sp.on_one S k
            have g1 := Sp.line_le S (k + 1)
            have g2 := Sp.col_le S k hks
            generalize eL : Sp.line S k = L at *
            generalize eC : Sp.col S k = C at *
            have Oc := Lib.hid oc
            have H1 := Lib.hid h1
            clear oc h1 eq eL eC
            by_cases hkl : k < S.size
            · by_cases h10 : S[k] = 10
              · have d : ((S[k].toNat : Int) == 10) = true := by rw [h10]; rfl
                have d2 : S[k].toNat = 10 := by rw [h10]; rfl
                have Hd := Lib.hid h10
                clear h10
                go_wp2_with fail
                refine (Oc.out _).mono ?_; rintro e w2 ⟨rfl, b2⟩
                go_wp2
                go_roundw
                case rel =>
                  rcases H1.out hkl with ⟨_, h1, h2⟩ | ⟨h, _⟩
                  · have g3 := g1 (by omega)
                    exact ⟨k + 1, L + 1, 1, by omega, by omega, by omega, by go_num, by go_num, rfl, fun _ => ⟨h1.symm, h2.symm⟩, trans9 hb b2⟩
                  · exact absurd Hd.out h
                case measure => simp [intOf]; omega
              · have d : ((S[k].toNat : Int) == 10) = false := by have := byte_ne h10; simpa using this
                have d2 : ¬ S[k].toNat = 10 := fun e => h10 (UInt8.toNat_inj.1 e)
                have Hd := Lib.hid h10
                clear h10
                go_wp2_with fail
                refine (Oc.out _).mono ?_; rintro e w2 ⟨rfl, b2⟩
                go_wp2
                go_roundw
                case rel =>
                  refine ⟨k + 1, L, C + 1, by omega, by omega, by omega, by go_num, rfl, by go_num, fun _ => ?_, trans9 hb b2⟩
                  rcases H1.out hkl with ⟨h, _⟩ | ⟨_, h1, h2⟩
                  · exact absurd h Hd.out
                  · exact ⟨h1.symm, h2.symm⟩
                case measure => simp [intOf]; omega
            · obtain rfl : k = S.size := by omega
              go_wp2_with fail
              refine (Oc.out _).mono ?_; rintro e w2 ⟨rfl, b2⟩
              go_wp2
              go_roundw
              case rel => exact ⟨S.size + 1, L, C + 1, by omega, by omega, by omega, by go_num, rfl, by go_num, fun h => by omega, trans9 hb b2⟩
              case measure => simp [intOf] <;> omega
          · obtain rfl : k = S.size + 1 := by omega
            have hp := Sp.past S
            have o1 := fun W => of_calls S ((S.size : Int) + 1) W (by omega)
            have o2 := fun W => of_calls S S.size W (by omega)
            rw [hp.1, hp.2.1, hp.2.2] at o1
            rw [Sp.off_in S _ (Nat.le_refl _)] at o2
            have O1 := Lib.hid o1
            have O2 := Lib.hid o2
            have sw : IntKind.i64.wrap ((S.size : Int) + 1) = (S.size : Int) + 1 := IntWalk.i64_in _ (by omega)
            generalize Sp.line S S.size = L' at *
            generalize Sp.col S S.size = C' at *
            clear o1 o2 hp
            have eq := fun W => eql_spot S.size L' C' S.size L' C' W
            rw [decide_eq_true (by exact ⟨rfl, rfl, rfl⟩)] at eq
            go_wp2_with fail
            refine (O1.out _).mono ?_; rintro e w2 ⟨rfl, b2⟩
            go_wp2_with fail
            refine (O2.out _).mono ?_; rintro e w3 ⟨rfl, b3⟩
            go_wp2
            go_ret
            exact ⟨rfl, trans9 (trans9 hb b2) b3⟩
  · have dn : decide ((20 : Int) < (n : Int)) = true := by simp; omega
    go_enter Try.func4, Try.ntmps4
    go_wp2_with fail
    refine (known_calls _).mono ?_; rintro e w1 ⟨rfl, b1⟩
    go_wp2
    go_ret
    exact ⟨rfl, b1⟩

end Go.Proofs.Ytpejphfggfppdaa
