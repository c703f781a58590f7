/- The walk of the law OutWhole. -/
import Derived.Test.YtobpdeepbjpchaaOutK
namespace Go.Proofs.Ytobpdeepbjpchaa
open Go.RowKit

set_option maxHeartbeats 4000000 in
theorem whole_walk (x : Int) (v : Value) (n : Nat) (es : Nat → ByteArray) (w : World) (hx : 0 ≤ x) (hx2 : x ≤ 65535) (hv : StrRow w v n es) :
    Calls Try.prog 4 #[.int .u16 x, v] w fun e w' => e = .returned (.bool true) ∧ Below w.heap.size w w' := by
  obtain ⟨a, cap, rfl, hnc, hcm, hcell⟩ := id hv
  unfold maxLen at hcm
  have Hv := Lib.hid hv
  have Hcell := Lib.hid hcell
  clear hcell hv
  go_enter Try.func4, Try.ntmps4
  go_wp2_with fail
  refine (known_calls _).mono ?_; rintro e w1 ⟨rfl, b1⟩
  have B1 := Lib.hid b1
  clear b1
  by_cases h10 : 10 < n
  · go_wp2_with fail
    go_ret
    exact ⟨rfl, B1.out⟩
  · have hk : ∃ k : Nat, k = room (x % 100) ∧ ((k : Nat) : Int) = x % 100 := ⟨_, rfl, by unfold room; omega⟩
    obtain ⟨k, hk1, hk2⟩ := hk
    have Hk1 := Lib.hid hk1
    have Hk2 := Lib.hid hk2
    have hk3 : k ≤ 100 := by omega
    clear hk1 hk2
    go_wp2_with fail
    refine (new_calls _ _).mono ?_; rintro e w2 ⟨rfl, rfl⟩
    have O2 := OutAt.new (x % 100) w1
    rw [← Hk1.out] at O2 ⊢
    have b2 := (Below.refl w1.heap.size w1).alloc (Nat.le_refl _) (.cells #[.int .i64 k, .string ⟨#[]⟩, .bool false] 36)
    have B2 := Lib.hid (trans9 B1.out b2)
    have hz := B1.out.size
    generalize w1.alloc (.cells #[.int .i64 k, .string ⟨#[]⟩, .bool false] 36) = W2 at *
    generalize w1.heap.size = za at *
    have A2 := Lib.hid O2
    clear O2 b2 B1
    go_wp2_with fail
    refine (new_calls _ _).mono ?_; rintro e w3 ⟨rfl, rfl⟩
    have O3 := OutAt.new (x % 100) W2
    rw [← Hk1.out] at O3 ⊢
    have b3 := (Below.refl W2.heap.size W2).alloc (Nat.le_refl _) (.cells #[.int .i64 k, .string ⟨#[]⟩, .bool false] 36)
    have B3 := Lib.hid (trans9 B2.out b3)
    have A3 := Lib.hid (A2.out.below b3 A2.out.lt)
    have hzz := A2.out.lt
    generalize W2.alloc (.cells #[.int .i64 k, .string ⟨#[]⟩, .bool false] 36) = W3 at *
    generalize W2.heap.size = zb at *
    have P3 := Lib.hid O3
    clear O3 b3 B2 A2 h10
    go_wp2_with fail
    go_loopw [7, 8] (fun s i wr => ∃ j : Nat, j ≤ n ∧ i = .int .i64 j ∧ ∃ al : Bool, s = .bool al ∧ Hid (Below w.heap.size w wr ∧ OutAt wr za k ⟨#[]⟩ false ∧ al = decide (lenN es j ≤ k) ∧ ∃ t, OutAt wr zb k t (!al) ∧ (al = true → t = cat ⟨#[]⟩ (catN es j)))) (fun _ i _ => n - (intOf i).toNat)
    case atStart => exact ⟨0, Nat.zero_le _, rfl, true, rfl, B3.out, A3.out, by simp [lenN], ⟨#[]⟩, P3.out, fun _ => rfl⟩
    case round =>
      obtain ⟨j, hj, rfl, al, rfl, H⟩ := hrel
      obtain ⟨hB, hA, hal, t, hP, ht⟩ := H.out
      have B4 := Lib.hid hB
      have A4 := Lib.hid hA
      have P4 := Lib.hid hP
      have Hal := Lib.hid hal
      have Ht := Lib.hid ht
      clear hA hP hal ht B3 A3 P3
      by_cases hjn : j < n
      · obtain ⟨b, off, rfl, hbs, hcs⟩ := Hcell.out (by omega)
        obtain ⟨e0, hm⟩ := hcs j hjn
        have e0 := (hB.cell (p := ⟨b, off + j, none⟩) hbs).trans e0
        clear hcs hB
        by_cases h100 : 100 < (es j).size
        · go_wp2
          go_ret
          exact ⟨rfl, B4.out⟩
        · have B5 := Lib.hid (B4.out.alloc B4.out.size (.cells #[.string (es j)] 9))
          have A5 := Lib.hid (A4.out.below ((Below.refl wr.heap.size wr).alloc (Nat.le_refl _) (.cells #[.string (es j)] 9)) A4.out.lt)
          have P5 := Lib.hid (P4.out.below ((Below.refl wr.heap.size wr).alloc (Nat.le_refl _) (.cells #[.string (es j)] 9)) P4.out.lt)
          have Hm : Hid (∀ s ∈ [es j], s.size ≤ maxLen) := by intro s hs; obtain rfl : s = es j := by simpa using hs
                                                              exact hm
          have S5 := Lib.hid (strRow_new wr [es j] 9 (by unfold maxLen; simp) Hm.out)
          have hl1 : lenN (fun i => [es j].getD i ByteArray.empty) 1 = (es j).size := by simp [lenN]
          have hc1 : catN (fun i => [es j].getD i ByteArray.empty) 1 = (es j).data.toList := by simp [catN]
          have nAB : some za ≠ some zb := by intro e; cases e; omega
          have hbz : w.heap.size ≤ zb := by omega
          have fin : ∀ (r : Bool) (w6 : World) (t' : ByteArray), (wr.alloc (.cells #[.string (es j)] 9)).grownBy w6 (some zb) → Below w.heap.size w w6 ∧ OutAt w6 za k ⟨#[]⟩ false := fun r w6 t' g =>
            ⟨B5.out.grown g (by have := B5.out.size; omega) (fun k hk => by cases hk; exact hbz), A5.out.grown g nAB⟩
          have Fin := Lib.hid fin
          clear nAB fin hm
          cases al with
          | false =>
            have hf : fitsB k t (!false) (lenN (fun i => [es j].getD i ByteArray.empty) 1) = false := rfl
            have Hp := Lib.hid (put_is P5.out S5.out false t hf rfl)
            clear hf hl1 hc1
            go_wp2_with fail
            refine Hp.out.mono ?_; rintro e w6 ⟨rfl, g6, p6⟩
            have F6 := Lib.hid (Fin.out false w6 t g6)
            have P6 := Lib.hid p6
            clear g6 p6
            go_wp2_with fail
            go_roundw
            case rel =>
              refine ⟨j + 1, by omega, by go_num, false, rfl, F6.out.1, F6.out.2, ?_, t, P6.out, fun e => by cases e⟩
              have h := of_decide_eq_false Hal.out.symm
              exact (decide_eq_false (by rw [lenN]; omega)).symm
            case measure => simp [intOf]; omega
          | true =>
            have hle := of_decide_eq_true Hal.out.symm
            have htt := Ht.out rfl
            have hts : t.size = lenN es j := by rw [htt, cat_size, catN_len]; exact Nat.zero_add _
            by_cases hfit : lenN es (j + 1) ≤ k
            · have hf : fitsB k t (!true) (lenN (fun i => [es j].getD i ByteArray.empty) 1) = true := by
                rw [hl1]; unfold fitsB; rw [hts]; rw [lenN] at hfit; simp; exact hfit
              have Hp := Lib.hid (put_is P5.out S5.out true (cat ⟨#[]⟩ (catN es (j + 1))) hf (by show cat t (catN (fun i => [es j].getD i ByteArray.empty) 1) = _; rw [hc1, htt]; simp [cat, catN]))
              have Hf := Lib.hid hfit
              clear hf hl1 hc1 hle htt hts hfit
              go_wp2_with fail
              refine Hp.out.mono ?_; rintro e w6 ⟨rfl, g6, p6⟩
              have F6 := Lib.hid (Fin.out false w6 t g6)
              have P6 := Lib.hid p6
              clear g6 p6
              go_wp2_with fail
              go_roundw
              case rel =>
                exact ⟨j + 1, by omega, by go_num, true, rfl, F6.out.1, F6.out.2, (decide_eq_true Hf.out).symm, _, P6.out, fun _ => rfl⟩
              case measure => simp [intOf]; omega
            · have hf : fitsB k t (!true) (lenN (fun i => [es j].getD i ByteArray.empty) 1) = false := by
                rw [hl1]; unfold fitsB; rw [hts]; rw [lenN] at hfit; simp; omega
              have Hp := Lib.hid (put_is P5.out S5.out false t hf rfl)
              have Hf := Lib.hid hfit
              clear hf hl1 hc1 hle htt hts hfit
              go_wp2_with fail
              refine Hp.out.mono ?_; rintro e w6 ⟨rfl, g6, p6⟩
              have F6 := Lib.hid (Fin.out false w6 t g6)
              have P6 := Lib.hid p6
              clear g6 p6
              go_wp2_with fail
              go_roundw
              case rel =>
                exact ⟨j + 1, by omega, by go_num, false, rfl, F6.out.1, F6.out.2, (decide_eq_false Hf.out).symm, _, P6.out, fun e => by cases e⟩
              case measure => simp [intOf]; omega
      · obtain rfl : j = n := by omega
        have S4 := Lib.hid (strRow_grown Hv.out hB)
        have nBA : some zb ≠ some za := by intro e; cases e; omega
        have haz : w.heap.size ≤ za := hz
        have Nba := Lib.hid nBA
        clear hB hjn nBA
        have hl0 : fitsB k ⟨#[]⟩ false (lenN es j) = decide (lenN es j ≤ k) := by unfold fitsB; rw [show (⟨#[]⟩ : ByteArray).size = 0 from rfl]; simp
        cases al with
        | false =>
          have Hp := Lib.hid (put_is A4.out S4.out false ⟨#[]⟩ (hl0.trans Hal.out.symm) rfl)
          clear hl0
          go_wp2_with fail
          refine Hp.out.mono ?_; rintro e w6 ⟨rfl, g6, a6⟩
          have B6 := Lib.hid (B4.out.grown g6 B4.out.size (fun k hk => by cases hk; exact haz))
          have P6 := Lib.hid (P4.out.grown g6 Nba.out)
          have A6 := Lib.hid a6
          clear g6 a6
          go_wp2_with fail
          refine (text_calls _ _ _ _ _ A6.out).mono ?_; rintro e w7 ⟨rfl, rfl⟩
          go_wp2_with fail
          refine (full_calls _ _ _ _ _ A6.out).mono ?_; rintro e w7 ⟨rfl, rfl⟩
          go_wp2_with fail
          refine (full_calls _ _ _ _ _ P6.out).mono ?_; rintro e w7 ⟨rfl, rfl⟩
          go_wp2
          go_ret
          exact ⟨rfl, B6.out⟩
        | true =>
          have Hp := Lib.hid (put_is A4.out S4.out true (cat ⟨#[]⟩ (catN es j)) (hl0.trans Hal.out.symm) rfl)
          clear hl0
          obtain rfl := Ht.out rfl
          generalize cat ⟨#[]⟩ (catN es j) = t at *
          go_wp2_with fail
          refine Hp.out.mono ?_; rintro e w6 ⟨rfl, g6, a6⟩
          have B6 := Lib.hid (B4.out.grown g6 B4.out.size (fun k hk => by cases hk; exact haz))
          have P6 := Lib.hid (P4.out.grown g6 Nba.out)
          have A6 := Lib.hid a6
          clear g6 a6
          go_wp2_with fail
          refine (text_calls _ _ _ _ _ A6.out).mono ?_; rintro e w7 ⟨rfl, rfl⟩
          go_wp2_with fail
          refine (text_calls _ _ _ _ _ P6.out).mono ?_; rintro e w7 ⟨rfl, rfl⟩
          go_wp2_with fail
          refine (left_calls _ _ _ _ _ A6.out).mono ?_; rintro e w7 ⟨rfl, b7⟩
          have B7 := Lib.hid (trans9 B6.out b7)
          have P7 := Lib.hid (P6.out.below b7 P6.out.lt)
          clear b7
          go_wp2_with fail
          refine (left_calls _ _ _ _ _ P7.out).mono ?_; rintro e w8 ⟨rfl, b8⟩
          have B8 := Lib.hid (trans9 B7.out b8)
          clear b8
          go_wp2
          go_ret
          exact ⟨rfl, B8.out⟩

end Go.Proofs.Ytobpdeepbjpchaa
