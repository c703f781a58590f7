/- The walk of the law UtfFar. -/
import Derived.Test.YtobaclonacpoeaaDoorUtfLawC
import Derived.Test.YtobaclonacpoeaaDoorUtfPlainF
import Derived.Test.YtobaclonacpoeaaDoorFrame
namespace Go.Proofs.YtobaclonacpoeaaDoor
open Go.RowKit

def tryAt (j : Nat) : ByteArray := ⟨(Utf.tries.getD j []).toArray⟩
def tryCells : Array Value := #[.string ⟨#[]⟩, .string ⟨#[128]⟩, .string ⟨#[160]⟩, .string ⟨#[144]⟩, .string ⟨#[128, 128]⟩, .string ⟨#[160, 128]⟩, .string ⟨#[144, 128]⟩, .string ⟨#[128, 128, 128]⟩, .string ⟨#[144, 128, 128]⟩]
theorem try_cell (j : Nat) (h : j < 9) : tryCells[j]? = some (.string (tryAt j)) := by
  rcases (by omega : j = 0 ∨ j = 1 ∨ j = 2 ∨ j = 3 ∨ j = 4 ∨ j = 5 ∨ j = 6 ∨ j = 7 ∨ j = 8) with rfl | rfl | rfl | rfl | rfl | rfl | rfl | rfl | rfl <;> rfl
theorem try_size (j : Nat) (h : j < 9) : (tryAt j).size ≤ 3 := by
  rcases (by omega : j = 0 ∨ j = 1 ∨ j = 2 ∨ j = 3 ∨ j = 4 ∨ j = 5 ∨ j = 6 ∨ j = 7 ∨ j = 8) with rfl | rfl | rfl | rfl | rfl | rfl | rfl | rfl | rfl <;> decide
def closesTo (s : ByteArray) (k j : Nat) : Bool := (Utf.tries.take j).any fun t => Utf.bad (s.data.toList.take k ++ t) == -1
theorem closesTo_succ (s : ByteArray) (k j : Nat) (h : j < 9) : closesTo s k (j + 1) = (closesTo s k j || (Utf.bad (s.data.toList.take k ++ (tryAt j).data.toList) == -1)) := by
  have hj : j < Utf.tries.length := h
  unfold closesTo
  rw [List.take_succ_eq_append_getElem hj, List.any_append]
  simp [tryAt, hj]
theorem take_str (s : ByteArray) (k : Nat) : (s.extract 0 k).data.toList = s.data.toList.take k := by
  rw [ByteArray.data_extract, Array.toList_extract, List.extract_eq_take_drop]; simp

set_option maxHeartbeats 2000000 in
theorem far_walk (s : ByteArray) (v : Value) (n : Nat) (es : Nat → ByteArray) (w : World) (hT : Tabs w) (hv : StrRow w v n es) :
    Calls Tryd.prog 5 #[.string s, v] w fun e w' => e = .returned (.bool true) ∧ Below w.heap.size w w' := by
  obtain ⟨a, cap, rfl, hnc, hcm, hrow⟩ := hv
  by_cases hs : s.size ≤ 200
  · have ds : decide ((200 : Int) < (s.size : Int)) = false := by simp; omega
    by_cases hn : n ≤ 10
    · have dn : decide ((10 : Int) < (n : Int)) = false := by simp; omega
      have bd := fun w' ht => bad_tabs s w' (by unfold maxLen; omega) ht
      have br := bad_range s.data.toList
      rw [Utf.size_len] at br
      by_cases hk : Utf.bad s.data.toList < 0
      · have e1 : Utf.bad s.data.toList = -1 := by omega
        rw [e1] at bd
        have ba := fun w' ht => bad_tabs (s ++ ⟨#[97]⟩) w' (by rw [app_size, show (⟨#[97]⟩ : ByteArray).size = 1 from rfl]; unfold maxLen; omega) ht
        rw [app_list, show (⟨#[97]⟩ : ByteArray).data.toList = [97] from rfl, Utf.far_good _ hk] at ba
        have Bd := Lib.hid bd
        have Ba := Lib.hid ba
        have Hv := Lib.hid hrow
        clear bd ba br hk e1 hrow
        go_enter Tryd.func5, Tryd.ntmps5
        go_wp2_with fail
        refine (known_calls _ hT).mono ?_; rintro e w1 ⟨rfl, b1, t1⟩
        go_wp2_with fail
        refine (Bd.out _ t1).mono ?_; rintro e w2 ⟨rfl, b2, t2⟩
        go_wp2_with fail
        refine (Ba.out _ t2).mono ?_; rintro e w3 ⟨rfl, b3, t3⟩
        go_wp2
        go_ret
        exact ⟨rfl, trans9 (trans9 b1 b2) b3⟩
      · obtain ⟨k, hkk⟩ := Int.eq_ofNat_of_zero_le (by omega : 0 ≤ Utf.bad s.data.toList)
        have cl := Utf.far_closes s.data.toList (by omega)
        have pa := fun e => Utf.far_past s.data.toList e (by omega)
        rw [hkk] at bd cl pa br
        rw [Utf.size_len] at pa
        simp only [Int.toNat_natCast] at cl pa
        have hkl : k ≤ s.size := by omega
        have Bd := Lib.hid bd
        have Cl := Lib.hid cl
        have Pa := Lib.hid pa
        have Hv := Lib.hid hrow
        clear bd cl pa hkk br hk hrow
        have dk : decide ((s.size : Int) < (k : Int)) = false := by simp; omega
        have dkn : decide (s.size < k) = false := by simp; omega
        have dk0 : decide ((k : Int) < 0) = false := by simp
        have dk1 : decide ((k : Int) < -1) = false := by simp only [decide_eq_false_iff_not]; omega
        have hki : (k : Int) ≤ (s.size : Int) := by omega
        go_enter Tryd.func5, Tryd.ntmps5
        go_wp2_with fail
        refine (known_calls _ hT).mono ?_; rintro e w1 ⟨rfl, b1, t1⟩
        go_wp2_with fail
        refine (Bd.out _ t1).mono ?_; rintro e w2 ⟨rfl, b2, t2⟩
        go_wp2_with fail
        change Code.wp _ _ _ _ (w2.alloc (.cells tryCells 9))
        obtain ⟨W1, hW1⟩ : ∃ W1 : World, W1 = w2.alloc (.cells tryCells 9) := ⟨_, rfl⟩
        rw [← hW1]
        have hz1 : W1.heap.size = w2.heap.size + 1 := by rw [hW1]; simp
        have bW : Below w2.heap.size w2 W1 := by rw [hW1]; exact (Below.refl _ _).alloc (Nat.le_refl _) _
        have tW : Tabs W1 := t2.below bW
        have cW : ∀ j, j < 9 → W1.cell? ⟨w2.heap.size, j, none⟩ = some (.string (tryAt j)) := fun j hj => by
          rw [hW1]
          have hc := cell_of_row (w2.alloc (.cells tryCells 9)) w2.heap.size j tryCells 9 (0, 0) (heap_alloc_new w2 _)
          rw [hc]; exact try_cell j hj
        have CW := Lib.hid cW
        have Hz1 := Lib.hid hz1
        clear cW hz1 hW1
        go_loopw [6, 38] (fun c i wr => ∃ j : Nat, j ≤ 9 ∧ i = .int .i64 j ∧ c = .bool (closesTo s k j) ∧ Below W1.heap.size W1 wr ∧ Tabs wr) (fun _ i _ => 9 - (intOf i).toNat)
        case atStart => exact ⟨0, by omega, rfl, rfl, Below.refl _ _, tW⟩
        case round =>
          obtain ⟨j, hj, rfl, rfl, hb, hTr⟩ := hrel
          have hz : W1.heap.size ≤ wr.heap.size := hb.size
          by_cases hj9 : j < 9
          · have cj : wr.cell? ⟨w2.heap.size, j, none⟩ = some (.string (tryAt j)) := by rw [hb.cell (by have := Hz1.out; simp; omega)]; exact CW.out j hj9
            have sj := try_size j hj9
            have Sc := Lib.hid (closesTo_succ s k j hj9)
            have bj := bad_tabs (s.extract 0 k ++ tryAt j) wr (by rw [app_size]; unfold maxLen; simp; omega) hTr
            rw [app_list, take_str] at bj
            cases hcl : closesTo s k j
            · have Hcl := Lib.hid hcl
              have Bj := Lib.hid bj
              clear bj hcl
              go_wp2_with fail
              refine Bj.out.mono ?_; rintro e w3 ⟨rfl, b3, t3⟩
              go_wp2
              go_roundw
              case rel => exact ⟨j + 1, by omega, by go_num, by rw [Sc.out, Hcl.out, Bool.false_or], hb.trans (b3.mono hz), t3⟩
              case measure => simp [intOf]; omega
            · have Hcl := Lib.hid hcl
              clear bj hcl
              go_wp2_with fail
              go_roundw
              case rel => exact ⟨j + 1, by omega, by go_num, by rw [Sc.out, Hcl.out, Bool.true_or], hb, hTr⟩
              case measure => simp [intOf]; omega
          · have hje : closesTo s k j = true := by
              have : j = 9 := by omega
              subst this
              exact Cl.out
            rw [hje]
            clear hje
            obtain ⟨W2, hW2⟩ : ∃ W2 : World, W2 = wr := ⟨_, rfl⟩
            rw [← hW2] at hb hTr hz ⊢
            clear hW2
            go_wp2_with fail
            go_loopw [9] (fun i wr => ∃ j : Nat, j ≤ n ∧ i = .int .i64 j ∧ Below W2.heap.size W2 wr ∧ Tabs wr) (fun i _ => n - (intOf i).toNat)
            case atStart => exact ⟨0, by omega, rfl, Below.refl _ _, hTr⟩
            case round =>
              obtain ⟨i, hi, rfl, hb5, hT5⟩ := hrel
              have hz5 : W2.heap.size ≤ wr.heap.size := hb5.size
              have hT5' := hT5
              by_cases hin : i < n
              · have din : decide ((i : Int) < (n : Int)) = true := by simp; omega
                have dinn : decide (i < n) = true := by simp; omega
                by_cases hkk : k < s.size
                · have dkk : decide ((k : Int) < (s.size : Int)) = true := by simp; omega
                  have dkkn : decide (k < s.size) = true := by simp; omega
                  obtain ⟨b, off, rfl, hbs, hcell⟩ := Hv.out (by omega)
                  have hb0 : Below w.heap.size w wr := by
                      have h12 := trans9 b1 b2
                      have h1W := trans9 h12 bW
                      have hW2' := trans9 h1W (hb.mono (Nat.le_refl _))
                      exact trans9 hW2' hb5
                  obtain ⟨hci, hsi⟩ := hcell i hin
                  have ci : wr.cell? ⟨b, off + i, none⟩ = some (.string (es i)) := by rw [hb0.cell hbs]; exact hci
                  have hbwr : b < wr.heap.size := Nat.lt_of_lt_of_le hbs hb0.size
                  have hcm' := hcm
                  unfold maxLen at hcm'
                  by_cases h50 : (es i).size ≤ 50
                  · have d50 : decide (((es i).size : Int) ≤ 50) = true := by simp; omega
                    have d50n : decide ((es i).size ≤ 50) = true := by simp; omega
                    have bq := fun w' ht => bad_tabs (s.extract 0 (k + 1) ++ es i) w' (by rw [app_size]; unfold maxLen; simp; omega) ht
                    rw [app_list, take_str, Pa.out _ (by omega)] at bq
                    have kw : IntKind.i64.wrap ((k : Int) + 1) = (k : Int) + 1 := IntWalk.i64_in _ (by omega)
                    have hsl : ∀ w : World, (Instr.slice 9 (.string s) none (some (.int .i64 ((k : Int) + 1))) none).run Tryd.prog w = .ok (.string (s.extract 0 (k + 1))) w := fun w => by
                      rw [run_slice_string_to_if w _ s _ _ Tryd.underlying9, if_pos (by omega), show ((k : Int) + 1).toNat = k + 1 from by omega]
                    have hadd : ∀ w : World, (Op.stringOp .add (s.extract 0 (k + 1)) (es i)).run Tryd.prog w = .ok (.string (s.extract 0 (k + 1) ++ es i)) w := fun w => run_string_add_sum w _ _ (by simp; omega)
                    have Bq := Lib.hid bq
                    clear bq
                    go_wp2_with fail
                    go_region_held3 (fun x => x.cell? ⟨b, off + i, none⟩ = some (.string (es i))) (first | exact ci | exact (b6.cell hbwr).trans ci | go_keep)
                      ((first | (go_at_call 13; refine (Bq.out _ ?_).mono ?_; (exact hT5.below (Below.refl _ _).drew); rintro e w6 ⟨rfl, b6, t6⟩)))
                    go_wp2
                    go_roundw
                    case rel => exact ⟨i + 1, by omega, by go_num, hb5.drew.trans (b6.mono hz5), t6⟩
                    case measure => simp [intOf]; omega
                  · have d50 : decide (((es i).size : Int) ≤ 50) = false := by simp; omega
                    have d50n : decide ((es i).size ≤ 50) = false := by simp; omega
                    go_wp2_with fail
                    go_quiet (fail)
                    go_wp2
                    go_roundw
                    case rel => exact ⟨i + 1, by omega, by go_num, below_drewN hb5 _, hT5.below (below_drewN (Below.refl _ _) _)⟩
                    case measure => simp [intOf]; omega
                · have dkk : decide ((k : Int) < (s.size : Int)) = false := by simp; omega
                  have dkkn : decide (k < s.size) = false := by simp; omega
                  go_wp2
                  go_ret
                  exact ⟨rfl, trans9 (trans9 (trans9 (trans9 b1 b2) bW) hb) hb5⟩
              · have din : decide ((i : Int) < (n : Int)) = false := by simp; omega
                have dinn : decide (i < n) = false := by simp; omega
                go_wp2
                go_ret
                exact ⟨rfl, trans9 (trans9 (trans9 (trans9 b1 b2) bW) hb) hb5⟩
    · have dn : decide ((10 : Int) < (n : Int)) = true := by simp; omega
      clear hrow
      go_enter Tryd.func5, Tryd.ntmps5
      go_wp2_with fail
      refine (known_calls _ hT).mono ?_; rintro e w1 ⟨rfl, b1, t1⟩
      go_wp2
      go_ret
      exact ⟨rfl, b1⟩
  · have ds : decide ((200 : Int) < (s.size : Int)) = true := by simp; omega
    clear hrow
    go_enter Tryd.func5, Tryd.ntmps5
    go_wp2_with fail
    refine (known_calls _ hT).mono ?_; rintro e w1 ⟨rfl, b1, t1⟩
    go_wp2
    go_ret
    exact ⟨rfl, b1⟩

end Go.Proofs.YtobaclonacpoeaaDoor
