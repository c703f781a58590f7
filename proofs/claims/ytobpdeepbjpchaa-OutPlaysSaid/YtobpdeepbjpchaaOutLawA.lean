/- The walk of the law OutPlays. -/
import Derived.Test.YtobpdeepbjpchaaOutK
import Derived.Test.YtobpdeepbjpchaaRows2
import Derived.Deep.DeepCutAuto
namespace Go.Proofs.Ytobpdeepbjpchaa
open Go.RowKit

theorem lenN_le (es : Nat → ByteArray) (m : Nat) : ∀ j, (∀ i, i < j → (es i).size ≤ m) → lenN es j ≤ j * m
  | 0, _ => by simp [lenN]
  | j + 1, h => by
    have h1 := lenN_le es m j (fun i hi => h i (by omega))
    have h2 := h j (by omega)
    rw [lenN, Nat.succ_mul]; omega

set_option maxRecDepth 100000 in
set_option maxHeartbeats 8000000 in
theorem plays_walk (x : Int) (v : Value) (n : Nat) (kk : Nat → Nat) (ess : Nat → Nat → ByteArray) (w : World) (hv : StrRows w v n kk ess) :
    Calls Try.prog 3 #[.int .i64 x, v] w fun e w' => e = .returned (.bool true) ∧ Below w.heap.size w w' := by
  obtain ⟨a, cap, rfl, hnc, hcm, hcell⟩ := hv
  unfold maxLen at hcm
  have Hcell := Lib.hid hcell
  clear hcell
  go_enter Try.func3, Try.ntmps3
  go_wp2_with fail
  refine (known_calls _).mono ?_; rintro e w1 ⟨rfl, b1⟩
  have B1 := Lib.hid b1
  clear b1
  by_cases h30 : 30 < n
  · go_wp2_with fail
    go_ret
    exact ⟨rfl, B1.out⟩
  · go_wp2_with fail
    refine (new_calls _ _).mono ?_; rintro e w2 ⟨rfl, rfl⟩
    have O2 := OutAt.new x w1
    have b2 := (Below.refl w1.heap.size w1).alloc (Nat.le_refl _) (.cells #[.int .i64 (room x), .string ⟨#[]⟩, .bool false] 36)
    have B2 := Lib.hid (trans9 B1.out b2)
    have hz := B1.out.size
    have hr := room_cases x
    have Hr := Lib.hid hr
    generalize w1.alloc (.cells #[.int .i64 (room x), .string ⟨#[]⟩, .bool false] 36) = W2 at *
    generalize w1.heap.size = z at *
    have A2 := Lib.hid O2
    clear O2 b2 B1 hr
    generalize room x = m at *
    go_upto_region 8 with (fail)
    go_cut [6, 7, 8] (fun s6 s7 s8 wx => s6 = .int .i64 (m : Nat) ∧ s7 = .string ⟨#[]⟩ ∧ s8 = .bool false ∧ wx = W2)
    case first =>
      rcases Hr.out with ⟨h, e⟩ | ⟨h, h2, e⟩ | ⟨h, h2, e⟩
      all_goals
        have E := Lib.hid e
        clear Hr e
        go_wp2_with fail
        go_meet
        exact ⟨by rw [E.out]; try rfl, rfl, rfl, rfl⟩
    case rest =>
      obtain ⟨rfl, rfl, rfl, rfl⟩ := hcut
      clear Hr
      go_wp2_with fail
      go_loopw [7, 8, 9] (fun s7 s8 s9 wr => ∃ i : Nat, i ≤ n ∧ s9 = .int .i64 i ∧ ∃ (t : ByteArray) (f : Bool), s7 = .string t ∧ s8 = .bool f ∧ Hid (Below w.heap.size w wr ∧ OutAt wr z m t f)) (fun _ _ s9 _ => n - (intOf s9).toNat)
      case atStart => exact ⟨0, Nat.zero_le _, rfl, _, _, rfl, rfl, B2.out, A2.out⟩
      case round =>
        obtain ⟨i, hi, rfl, t, f, rfl, rfl, H⟩ := hrel
        obtain ⟨hB, hA⟩ := H.out
        have B4 := Lib.hid hB
        have A4 := Lib.hid hA
        clear hA B2 A2 H
        by_cases hin : i < n
        · obtain ⟨b, off, rfl, hbs, hcs⟩ := Hcell.out (by omega)
          obtain ⟨V, e0, hV⟩ := hcs i hin
          have e0 := (hB.cell (p := ⟨b, off + i, none⟩) hbs).trans e0
          have hV := strRow_grown hV hB
          clear hcs hB
          generalize kk i = k at *
          generalize ess i = es at *
          have V4 := Lib.hid hV
          obtain ⟨a1, cap1, rfl, hk1, hm1, hcell1⟩ := hV
          have Hc1 := Lib.hid hcell1
          clear hcell1
          unfold maxLen at hm1
          by_cases h10 : 10 < k
          · go_wp2
            go_ret
            exact ⟨rfl, B4.out⟩
          · go_wp2_with fail
            go_loop [10, 11] (fun s10 s11 => ∃ j : Nat, j ≤ k ∧ s11 = .int .i64 j ∧ ∃ S : ByteArray, s10 = .string S ∧ Hid (S = cat ⟨#[]⟩ (catN es j) ∧ lenN es j ≤ j * 200)) (fun _ s11 => k - (intOf s11).toNat)
            case atStart => exact ⟨0, Nat.zero_le _, rfl, _, rfl, rfl, Nat.zero_le _⟩
            case round =>
              obtain ⟨j, hj, rfl, S, rfl, H2⟩ := hrel
              have hSz : S.size ≤ j * 200 := by rw [H2.out.1, cat_size, catN_len]; exact (Nat.zero_add _).symm ▸ H2.out.2
              by_cases hjk : j < k
              · obtain ⟨b1, off1, rfl, hbs1, hcs1⟩ := Hc1.out (by omega)
                obtain ⟨e1, hsz⟩ := hcs1 j hjk
                clear hcs1
                by_cases h200 : 200 < (es j).size
                · go_wp2
                  go_ret
                  exact ⟨rfl, B4.out⟩
                · have hadd : ∀ w : World, (Op.stringOp .add S (es j)).run Try.prog w = .ok (.string (S ++ es j)) w := fun w => run_string_add_sum w _ _ (by omega)
                  have hle : lenN es (j + 1) ≤ (j + 1) * 200 := by have := H2.out.2; rw [lenN]; omega
                  have hcat : S ++ es j = cat ⟨#[]⟩ (catN es (j + 1)) := by
                    rw [H2.out.1]
                    apply ByteArray.ext
                    simp [cat, catN]
                  have Hle := Lib.hid hle
                  have Hcat := Lib.hid hcat
                  clear hle hcat hSz
                  go_wp2
                  go_round
                  case rel => exact ⟨j + 1, by omega, by go_num, _, rfl, Hcat.out, Hle.out⟩
                  case measure => simp [intOf]; omega
              · obtain rfl : j = k := by omega
                have hS := H2.out.1
                have hSl : S.size = lenN es j := by rw [hS, cat_size, catN_len]; exact Nat.zero_add _
                have hts : t.size ≤ 20000 := Nat.le_trans A4.out.fits A4.out.small
                have hms : m ≤ 20000 := A4.out.small
                have hbz : w.heap.size ≤ z := hz
                cases f with
                | true =>
                  have Hp := Lib.hid (put_is A4.out V4.out false t rfl rfl)
                  clear hS hSl hjk
                  go_wp2_with fail
                  refine Hp.out.mono ?_; rintro e w6 ⟨rfl, g6, a6⟩
                  have B6 := Lib.hid (B4.out.grown g6 B4.out.size (fun k hk => by cases hk; exact hbz))
                  have A6 := Lib.hid a6
                  clear g6 a6
                  go_wp2_with fail
                  refine (text_calls _ _ _ _ _ A6.out).mono ?_; rintro e w7 ⟨rfl, rfl⟩
                  go_wp2_with fail
                  refine (len_calls _ _ _ _ _ A6.out).mono ?_; rintro e w7 ⟨rfl, rfl⟩
                  go_wp2_with fail
                  refine (left_full_calls _ _ _ _ A6.out).mono ?_; rintro e w7 ⟨rfl, rfl⟩
                  go_wp2_with fail
                  refine (full_calls _ _ _ _ _ A6.out).mono ?_; rintro e w7 ⟨rfl, rfl⟩
                  go_wp2_with fail
                  go_roundw
                  case rel => exact ⟨i + 1, by omega, by go_num, _, _, rfl, rfl, B6.out, A6.out⟩
                  case measure => simp [intOf]; omega
                | false =>
                  by_cases hfit : t.size + S.size ≤ m
                  · have hf : fitsB m t false (lenN es j) = true := by unfold fitsB; rw [← hSl]; simp; exact hfit
                    have hct : t ++ S = cat t (catN es j) := by
                      rw [hS]; apply ByteArray.ext; simp [cat]
                    have Hp := Lib.hid (put_is A4.out V4.out true (t ++ S) hf (by rw [hct]; rfl))
                    have hadd : ∀ w : World, (Op.stringOp .add t S).run Try.prog w = .ok (.string (t ++ S)) w := fun w => run_string_add_sum w _ _ (by omega)
                    have hsz : (t ++ S).size = t.size + S.size := ByteArray.size_append
                    have d1 : ((t.size : Int) + (S.size : Int) ≤ (m : Int)) := by omega
                    generalize t ++ S = T at *
                    have hT : T.size ≤ m := by omega
                    have Hsub : Hid (((leftOf m T (!true) : Nat) : Int) = (m : Int) - (T.size : Int)) := by show _ = _; unfold leftOf; simp; omega
                    clear hS hSl hjk hf hct hsz
                    go_wp2_with fail
                    refine Hp.out.mono ?_; rintro e w6 ⟨rfl, g6, a6⟩
                    have B6 := Lib.hid (B4.out.grown g6 B4.out.size (fun k hk => by cases hk; exact hbz))
                    have A6 := Lib.hid a6
                    clear g6 a6
                    go_wp2_with fail
                    refine (text_calls _ _ _ _ _ A6.out).mono ?_; rintro e w7 ⟨rfl, rfl⟩
                    go_wp2_with fail
                    refine (len_calls _ _ _ _ _ A6.out).mono ?_; rintro e w7 ⟨rfl, rfl⟩
                    go_wp2_with fail
                    refine (left_calls _ _ _ _ _ A6.out).mono ?_; rintro e w7 ⟨rfl, b7⟩
                    rw [Hsub.out]
                    have B7 := Lib.hid (trans9 B6.out b7)
                    have A7 := Lib.hid (A6.out.below b7 A6.out.lt)
                    clear b7
                    go_wp2_with fail
                    refine (full_calls _ _ _ _ _ A7.out).mono ?_; rintro e w7 ⟨rfl, rfl⟩
                    go_wp2_with fail
                    go_roundw
                    case rel => exact ⟨i + 1, by omega, by go_num, _, _, rfl, rfl, B7.out, A7.out⟩
                    case measure => simp [intOf]; omega
                  · have hf : fitsB m t false (lenN es j) = false := by unfold fitsB; rw [← hSl]; simp; omega
                    have Hp := Lib.hid (put_is A4.out V4.out false t hf rfl)
                    have d1 : ¬ ((t.size : Int) + (S.size : Int) ≤ (m : Int)) := by omega
                    clear hS hSl hjk hf
                    go_wp2_with fail
                    refine Hp.out.mono ?_; rintro e w6 ⟨rfl, g6, a6⟩
                    have B6 := Lib.hid (B4.out.grown g6 B4.out.size (fun k hk => by cases hk; exact hbz))
                    have A6 := Lib.hid a6
                    clear g6 a6
                    go_wp2_with fail
                    refine (text_calls _ _ _ _ _ A6.out).mono ?_; rintro e w7 ⟨rfl, rfl⟩
                    go_wp2_with fail
                    refine (len_calls _ _ _ _ _ A6.out).mono ?_; rintro e w7 ⟨rfl, rfl⟩
                    go_wp2_with fail
                    refine (left_full_calls _ _ _ _ A6.out).mono ?_; rintro e w7 ⟨rfl, rfl⟩
                    go_wp2_with fail
                    refine (full_calls _ _ _ _ _ A6.out).mono ?_; rintro e w7 ⟨rfl, rfl⟩
                    go_wp2_with fail
                    go_roundw
                    case rel => exact ⟨i + 1, by omega, by go_num, _, _, rfl, rfl, B6.out, A6.out⟩
                    case measure => simp [intOf]; omega
        · obtain rfl : i = n := by omega
          go_wp2
          go_ret
          exact ⟨rfl, B4.out⟩
end Go.Proofs.Ytobpdeepbjpchaa
