/- The walk of the law CharsetTells. -/
import Derived.Test.YtaljohmiiigecaaDoorChK
import Derived.Test.YtaljohmiiigecaaDoorRefChB
import Derived.Deep.DeepCutAuto
set_option maxRecDepth 100000
set_option linter.unusedVariables false
set_option linter.unusedSimpArgs false
namespace Go.Proofs.YtaljohmiiigecaaDoor
open Go.RowKit

set_option maxHeartbeats 4000000 in
theorem tellsc_walk (p v : Int) (l : List UInt8) (at' : Int) (w : World) (hl : l.length ≤ maxLen) (hT : ChT w) :
    Calls Tryd.prog 3 #[.int .i64 p, .int .i64 v, .string (str l), .int .i64 at'] w fun e w' => e = .returned (.bool true) ∧ Below w.heap.size w w' := by
  have hsl := str_size l
  have hl' := hl
  unfold maxLen at hl'
  go_enter Tryd.func3, Tryd.ntmps3
  go_wp2_with fail
  refine (chknown_calls _ hT).mono ?_; rintro e w1 ⟨rfl, b1⟩
  have B1 := Lib.hid b1
  clear b1
  by_cases h1 : 200 < l.length
  · have d1 : decide ((200 : Int) < (l.length : Int)) = true := decide_eq_true (by omega)
    have d1' : decide (200 < l.length) = true := decide_eq_true h1
    go_wp2
    go_ret
    exact ⟨rfl, B1.out⟩
  have d1 : decide ((200 : Int) < (l.length : Int)) = false := decide_eq_false (by omega)
  have d1' : decide (200 < l.length) = false := decide_eq_false h1
  go_wp2_with fail
  clear d1 d1'
  go_loopw [9] (fun x wr => ∃ k : Nat, k ≤ 7 ∧ x = .int .i64 (k : Nat) ∧ Hid (Below w.heap.size w wr)) (fun x _ => (7 - intOf x).toNat)
  case atStart => exact ⟨0, by omega, rfl, B1⟩
  case round =>
    obtain ⟨k, hk, rfl, H⟩ := hrel
    clear B1
    by_cases hk7 : k < 7
    · obtain ⟨Q, HQ⟩ : ∃ Q : Int, Hid (Q = if k = 6 then p else (k : Int)) := ⟨_, rfl⟩
      go_upto_if 26 with (fail)
      go_cut [10] (fun s10 wx => s10 = .int .i64 Q ∧ wx = wr)
      case first =>
        by_cases h6 : k = 6
        · have hq := Lib.hid (show Q = p by rw [HQ.out, if_pos h6])
          have d6 : decide ((k : Int) = 6) = true := decide_eq_true (by omega)
          clear HQ
          go_wp2_with fail
          go_meet
          exact ⟨by rw [hq.out], rfl⟩
        · have hq := Lib.hid (show Q = (k : Int) by rw [HQ.out, if_neg h6])
          have d6 : decide ((k : Int) = 6) = false := decide_eq_false (by omega)
          have n6 : ¬ (k : Int) = 6 := by omega
          clear HQ
          go_wp2_with fail
          go_meet
          exact ⟨by rw [hq.out], rfl⟩
      case rest =>
        obtain ⟨rfl, rfl⟩ := hcut
        clear HQ
        go_wp2_with fail
        go_loopw [11] (fun x wr => ∃ j : Nat, j ≤ 3 ∧ x = .int .i64 (j : Nat) ∧ Hid (Below w.heap.size w wr)) (fun x _ => (3 - intOf x).toNat)
        case atStart => exact ⟨0, by omega, rfl, H⟩
        case round =>
          obtain ⟨j, hj, rfl, H2⟩ := hrel
          clear H
          by_cases hj3 : j < 3
          · obtain ⟨R, HR⟩ : ∃ R : Int, Hid (R = if j = 2 then v else (j : Int)) := ⟨_, rfl⟩
            go_upto_if 34 with (fail)
            go_cut [12] (fun s12 wx => s12 = .int .i64 R ∧ wx = wr)
            case first =>
              by_cases h6 : j = 2
              · have hq := Lib.hid (show R = v by rw [HR.out, if_pos h6])
                have d6 : decide ((j : Int) = 2) = true := decide_eq_true (by omega)
                clear HR
                go_wp2_with fail
                go_meet
                exact ⟨by rw [hq.out], rfl⟩
              · have hq := Lib.hid (show R = (j : Int) by rw [HR.out, if_neg h6])
                have d6 : decide ((j : Int) = 2) = false := decide_eq_false (by omega)
                have n6 : ¬ (j : Int) = 2 := by omega
                clear HR
                go_wp2_with fail
                go_meet
                exact ⟨by rw [hq.out], rfl⟩
            case rest =>
              obtain ⟨rfl, rfl⟩ := hcut
              clear HR
              have hTw := Lib.hid hT
              go_wp2_with fail
              obtain ⟨W2, hW⟩ : ∃ W2 : World, W2 = wc.alloc (.cells #[.int .i64 at', .int .i64 0, .int .i64 ((l.length : Int) / 2), .int .i64 ((l.length : Int) - 1)] 3) := ⟨_, rfl⟩
              rw [← hW]
              have hb2 := Lib.hid (show Below w.heap.size w W2 by rw [hW]; exact H2.out.alloc H2.out.size _)
              have hin : wc.heap.size < W2.heap.size := by rw [hW]; simp
              have hcs : ∀ n, n < 4 → ∃ z : Int, W2.cell? ⟨wc.heap.size, n, none⟩ = some (.int .i64 z) := by
                intro n hn
                rw [hW]
                match n, hn with
                | 0, _ => exact ⟨at', by simp⟩
                | 1, _ => exact ⟨0, by simp⟩
                | 2, _ => exact ⟨(l.length : Int) / 2, by simp⟩
                | 3, _ => exact ⟨(l.length : Int) - 1, by simp⟩
              clear hW H2
              generalize wc.heap.size = b at *
              go_loopw [45] (fun x wr => ∃ m : Nat, m ≤ 4 ∧ x = .int .i64 (m : Nat) ∧ Hid (Below W2.heap.size W2 wr)) (fun x _ => (4 - intOf x).toNat)
              case atStart => exact ⟨0, by omega, rfl, Below.refl _ _⟩
              case round =>
                obtain ⟨m, hm, rfl, H3⟩ := hrel
                have HB := Lib.hid (trans9 hb2.out H3.out)
                have hT3 := hTw.out.below HB.out
                by_cases hm4 : m < 4
                · obtain ⟨z, hz⟩ := hcs m hm4
                  have hcell : wr.cell? ⟨b, m, none⟩ = some (.int .i64 z) := by rw [H3.out.cell hin]; exact hz
                  have hca := chlegal_calls Q R l z wr hl hT3
                  have hcr := fun W => rlegal_calls Q R l z W hl
                  generalize Ch.legI Q R l z = g at *
                  clear hcs hz
                  go_wp2_with fail
                  refine hca.mono ?_; rintro e w3 ⟨rfl, b3⟩
                  have H4 := Lib.hid (trans9 H3.out b3)
                  clear b3 hcell
                  go_wp2_with fail
                  refine (hcr _).mono ?_; rintro e w4 ⟨rfl, rfl⟩
                  go_wp2
                  go_roundw
                  case rel => exact ⟨m + 1, by omega, by go_num, H4⟩
                  case measure => simp [intOf]; omega
                · have hca := fun W hW => chis_calls Q R l W hl hW
                  have hcr := fun W => risc_calls Q R l W hl
                  have hba := fun W hW => chbad_calls Q R l W hl hW
                  have hbr := fun W => rbadc_calls Q R l W hl
                  generalize Ch.isName Q R l = g at *
                  generalize Ch.bad Q R l = n at *
                  clear hcs
                  go_wp2_with fail
                  refine (hca _ hT3).mono ?_; rintro e w3 ⟨rfl, b3⟩
                  have T4 := hT3.below b3
                  have H4 := Lib.hid (trans9 HB.out b3)
                  clear b3 hT3
                  go_wp2_with fail
                  refine (hcr _).mono ?_; rintro e w4 ⟨rfl, rfl⟩
                  go_wp2_with fail
                  refine (hba _ T4).mono ?_; rintro e w5 ⟨rfl, b5⟩
                  have H5 := Lib.hid (trans9 H4.out b5)
                  clear b5 T4
                  go_wp2_with fail
                  refine (hbr _).mono ?_; rintro e w6 ⟨rfl, rfl⟩
                  go_wp2
                  go_roundw
                  case rel => exact ⟨j + 1, by omega, by go_num, H5⟩
                  case measure => simp [intOf]; omega
          · go_wp2_with fail
            go_roundw
            case rel => exact ⟨k + 1, by omega, by go_num, H2⟩
            case measure => simp [intOf]; omega
    · go_wp2
      go_ret
      exact ⟨rfl, H.out⟩
theorem tellsc_ba (p v : Int) (s : ByteArray) (at' : Int) (w : World) (hl : s.size ≤ maxLen) (hT : ChT w) :
    Calls Tryd.prog 3 #[.int .i64 p, .int .i64 v, .string s, .int .i64 at'] w fun e w' => e = .returned (.bool true) ∧ Below w.heap.size w w' := by
  rw [str_self s]
  exact tellsc_walk p v _ at' w (by rw [← str_size, ← str_self]; exact hl) hT

end Go.Proofs.YtaljohmiiigecaaDoor
