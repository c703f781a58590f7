/- The reference's spot and fault. -/
import Derived.Test.YtpejphfggfppdaaSpotC
namespace Go.Proofs.Ytpejphfggfppdaa
open Go.RowKit

set_option maxHeartbeats 2000000 in
theorem refSpot_calls (s : ByteArray) (i : Int) (w : World) (hs : s.size ≤ 562949953421312) :
    Calls Try.prog 9 #[.string s, .int .i64 i] w fun e w' =>
      e = .returned (.agg #[.int .i64 (Sp.off s i : Int), .int .i64 (Sp.line s i : Int), .int .i64 (Sp.col s i : Int)]) ∧ Below w.heap.size w w' := by
  obtain ⟨n, hn, hns, hway⟩ : ∃ n : Nat, Hid (Sp.off s i = n) ∧ n ≤ s.size ∧ ((i < 0 ∧ n = 0) ∨ ((s.size : Int) < i ∧ n = s.size) ∨ (i = (n : Int))) := by
    by_cases h0 : i < 0
    · exact ⟨0, by unfold Sp.off; show _ = _; omega, by omega, Or.inl ⟨h0, rfl⟩⟩
    · by_cases h1 : (s.size : Int) < i
      · exact ⟨s.size, by unfold Sp.off; show _ = _; omega, by omega, Or.inr (Or.inl ⟨h1, rfl⟩)⟩
      · exact ⟨i.toNat, by unfold Sp.off; show _ = _; omega, by omega, Or.inr (Or.inr (by omega))⟩
  have hl : Sp.line s i = Sp.lfs (s.data.toList.take n) + 1 := by unfold Sp.line; rw [hn.out]
  have hk : Sp.col s i = Sp.tailC 10 (s.data.toList.take n) + 1 := by unfold Sp.col; rw [hn.out]
  rw [hl, hk, hn.out]
  clear hl hk hn
  have h549 : (n : Int) ≤ 562949953421312 := by omega
  rcases hway with ⟨h0, rfl⟩ | ⟨h0, rfl⟩ | rfl
  · have hz : (0 : Int) ≤ (s.size : Int) := by omega
    go_enter Try.func9, Try.ntmps9
    go_wp2_with fail
    obtain ⟨W1, hW1⟩ : ∃ W1 : World, W1 = (w.alloc (.cells #[.int .i64 0, .int .i64 0, .int .i64 0] 26)).alloc (.cells #[.int .i64 (0), .int .i64 1, .int .i64 1] 26) := ⟨_, rfl⟩
    rw [← hW1]
    have hb1 : Below w.heap.size w W1 := by rw [hW1]; exact ((Below.refl _ _).alloc (Nat.le_refl _) _).alloc (by simp) _
    have hr1 : SpAt W1 w.heap.size 0 0 0 := by
      rw [hW1]; exact (SpAt.new w 0 0 0 _).below ((Below.refl _ _).alloc (Nat.le_refl _) _) (by simp)
    have ha1 : SpAt W1 (w.heap.size + 1) (0) 1 1 := by
      rw [hW1]
      have h := SpAt.new (w.alloc (.cells #[.int .i64 0, .int .i64 0, .int .i64 0] 26)) (0) 1 1 26
      rw [show (w.alloc (.cells #[.int .i64 0, .int .i64 0, .int .i64 0] 26)).heap.size = w.heap.size + 1 by simp] at h
      exact h
    have Hb1 := Lib.hid hb1
    have Hr1 := Lib.hid hr1
    have Ha1 := Lib.hid ha1
    clear hW1 hb1 hr1 ha1
    go_loopw [6] (fun i wr => ∃ j : Nat, j ≤ 0 ∧ i = .int .i64 j ∧ Hid (Below w.heap.size w wr ∧ SpAt wr w.heap.size 0 0 0 ∧ SpAt wr (w.heap.size + 1) (0) ((Sp.lfs (s.data.toList.take j) : Int) + 1) ((Sp.tailC 10 (s.data.toList.take j) : Int) + 1))) (fun i _ => 0 - (intOf i).toNat)
    case atStart => exact ⟨0, by omega, rfl, Hb1.out, Hr1.out, Ha1.out⟩
    case round =>
      obtain ⟨j, hj, rfl, H⟩ := hrel
      obtain ⟨hb, hr, hA⟩ := H.out
      have l1 := Sp.lfs_le (s.data.toList.take j)
      have l2 := Sp.tailC_le 10 (s.data.toList.take j)
      rw [List.length_take, Sp.size_len] at l1 l2
      obtain rfl : 0 = j := by omega

      have l1 := Nat.le_trans l1 (Nat.min_le_left _ _)
      have l2 := Nat.le_trans l2 (Nat.min_le_left _ _)
      obtain ⟨lR, R0, R1, R2, fR⟩ := hr
      obtain ⟨lA, A0, A1, A2, fA⟩ := hA
      generalize hL : Sp.lfs (s.data.toList.take 0) = L at *
      generalize hK : Sp.tailC 10 (s.data.toList.take 0) = K at *
      have HL := Lib.hid hL
      have HK := Lib.hid hK
      clear hL hK
      go_wp2
      refine bodyPost_ret (v := .agg #[.int .i64 (0), .int .i64 ((L : Int) + 1), .int .i64 ((K : Int) + 1)]) (by simp [results, Try.results9, go_sem, R0, R1, R2]) rfl ⟨agg3 (by omega) (by rw [HL.out]; omega) (by rw [HK.out]; omega), ?_⟩
      repeat (refine Below.setCell ?_ (by simp) _)
      exact hb
  · have h2 : ¬ i ≤ (s.size : Int) := by omega
    have h3 : (0 : Int) ≤ i := by omega
    go_enter Try.func9, Try.ntmps9
    go_wp2_with fail
    obtain ⟨W1, hW1⟩ : ∃ W1 : World, W1 = (w.alloc (.cells #[.int .i64 0, .int .i64 0, .int .i64 0] 26)).alloc (.cells #[.int .i64 (s.size : Int), .int .i64 1, .int .i64 1] 26) := ⟨_, rfl⟩
    rw [← hW1]
    have hb1 : Below w.heap.size w W1 := by rw [hW1]; exact ((Below.refl _ _).alloc (Nat.le_refl _) _).alloc (by simp) _
    have hr1 : SpAt W1 w.heap.size 0 0 0 := by
      rw [hW1]; exact (SpAt.new w 0 0 0 _).below ((Below.refl _ _).alloc (Nat.le_refl _) _) (by simp)
    have ha1 : SpAt W1 (w.heap.size + 1) (s.size : Int) 1 1 := by
      rw [hW1]
      have h := SpAt.new (w.alloc (.cells #[.int .i64 0, .int .i64 0, .int .i64 0] 26)) (s.size : Int) 1 1 26
      rw [show (w.alloc (.cells #[.int .i64 0, .int .i64 0, .int .i64 0] 26)).heap.size = w.heap.size + 1 by simp] at h
      exact h
    have Hb1 := Lib.hid hb1
    have Hr1 := Lib.hid hr1
    have Ha1 := Lib.hid ha1
    clear hW1 hb1 hr1 ha1
    go_loopw [6] (fun i wr => ∃ j : Nat, j ≤ s.size ∧ i = .int .i64 j ∧ Hid (Below w.heap.size w wr ∧ SpAt wr w.heap.size 0 0 0 ∧ SpAt wr (w.heap.size + 1) (s.size : Int) ((Sp.lfs (s.data.toList.take j) : Int) + 1) ((Sp.tailC 10 (s.data.toList.take j) : Int) + 1))) (fun i _ => s.size - (intOf i).toNat)
    case atStart => exact ⟨0, by omega, rfl, Hb1.out, Hr1.out, Ha1.out⟩
    case round =>
      obtain ⟨j, hj, rfl, H⟩ := hrel
      obtain ⟨hb, hr, hA⟩ := H.out
      have l1 := Sp.lfs_le (s.data.toList.take j)
      have l2 := Sp.tailC_le 10 (s.data.toList.take j)
      rw [List.length_take, Sp.size_len] at l1 l2
      by_cases hjn : j < s.size
      · have hjs : j < s.size := by omega
        have ht := Sp.take_snoc s j hjs
        have t1 := Sp.lfs_snoc (s.data.toList.take j) s[j]
        have t2 := Sp.tailC_snoc 10 (s.data.toList.take j) s[j]
        rw [← ht] at t1 t2
        have T1 := Lib.hid t1
        have T2 := Lib.hid t2
        have l1 := Nat.le_trans l1 (Nat.min_le_left _ _)
        have l2 := Nat.le_trans l2 (Nat.min_le_left _ _)
        clear ht t1 t2
        generalize Sp.lfs (s.data.toList.take j) = L at *
        generalize Sp.tailC 10 (s.data.toList.take j) = K at *
        have hA' := hA
        obtain ⟨lA, A0, A1, A2, fA⟩ := hA
        by_cases hc : s[j] = 10
        · have d1 : (s[j].toNat : Int) = 10 := by rw [hc]; rfl
          have d : ((s[j].toNat : Int) == 10) = true := by simp [d1]
          have d2 : decide (s[j].toNat = 10) = true := by rw [hc]; rfl
          have Hc := Lib.hid hc
          clear hc d1
          go_wp2
          go_roundw
          case rel =>
            refine ⟨j + 1, by omega, by go_num, ?_, ?_, ?_⟩
            · exact ((hb.setCell (p := ⟨w.heap.size + 1, 2, none⟩) (by simp) _).setCell (p := ⟨w.heap.size + 1, 1, none⟩) (by simp) _).setCell (p := ⟨w.heap.size + 1, 2, none⟩) (by simp) _
            · refine SpAt.below (B := w.heap.size + 1) hr ?_ (by simp)
              repeat (refine Below.setCell ?_ (by simp) _)
              exact Below.refl _ _
            · rw [T1.out, T2.out, if_pos Hc.out, if_pos Hc.out]
              exact ((hA'.set2 _).set1 _).set2 _
          case measure => simp [intOf]; omega
        · have d : ((s[j].toNat : Int) == 10) = false := by
            have := byte_ne hc; simpa using this
          have d2 : ¬ s[j].toNat = 10 := fun e => hc (UInt8.toNat_inj.1 e)
          have Hc := Lib.hid hc
          clear hc
          go_wp2
          go_roundw
          case rel =>
            refine ⟨j + 1, by omega, by go_num, ?_, ?_, ?_⟩
            · exact hb.setCell (p := ⟨w.heap.size + 1, 2, none⟩) (by simp) _
            · refine SpAt.below (B := w.heap.size + 1) hr ?_ (by simp)
              repeat (refine Below.setCell ?_ (by simp) _)
              exact Below.refl _ _
            · rw [T1.out, T2.out, if_neg Hc.out, if_neg Hc.out]
              exact hA'.set2 _
          case measure => simp [intOf]; omega
      obtain rfl : s.size = j := by omega

      have l1 := Nat.le_trans l1 (Nat.min_le_left _ _)
      have l2 := Nat.le_trans l2 (Nat.min_le_left _ _)
      obtain ⟨lR, R0, R1, R2, fR⟩ := hr
      obtain ⟨lA, A0, A1, A2, fA⟩ := hA
      generalize hL : Sp.lfs (s.data.toList.take s.size) = L at *
      generalize hK : Sp.tailC 10 (s.data.toList.take s.size) = K at *
      have HL := Lib.hid hL
      have HK := Lib.hid hK
      clear hL hK
      go_wp2
      refine bodyPost_ret (v := .agg #[.int .i64 (s.size : Int), .int .i64 ((L : Int) + 1), .int .i64 ((K : Int) + 1)]) (by simp [results, Try.results9, go_sem, R0, R1, R2]) rfl ⟨agg3 (by omega) (by rw [HL.out]; omega) (by rw [HK.out]; omega), ?_⟩
      repeat (refine Below.setCell ?_ (by simp) _)
      exact hb
  · go_enter Try.func9, Try.ntmps9
    go_wp2_with fail
    obtain ⟨W1, hW1⟩ : ∃ W1 : World, W1 = (w.alloc (.cells #[.int .i64 0, .int .i64 0, .int .i64 0] 26)).alloc (.cells #[.int .i64 (n : Int), .int .i64 1, .int .i64 1] 26) := ⟨_, rfl⟩
    rw [← hW1]
    have hb1 : Below w.heap.size w W1 := by rw [hW1]; exact ((Below.refl _ _).alloc (Nat.le_refl _) _).alloc (by simp) _
    have hr1 : SpAt W1 w.heap.size 0 0 0 := by
      rw [hW1]; exact (SpAt.new w 0 0 0 _).below ((Below.refl _ _).alloc (Nat.le_refl _) _) (by simp)
    have ha1 : SpAt W1 (w.heap.size + 1) (n : Int) 1 1 := by
      rw [hW1]
      have h := SpAt.new (w.alloc (.cells #[.int .i64 0, .int .i64 0, .int .i64 0] 26)) (n : Int) 1 1 26
      rw [show (w.alloc (.cells #[.int .i64 0, .int .i64 0, .int .i64 0] 26)).heap.size = w.heap.size + 1 by simp] at h
      exact h
    have Hb1 := Lib.hid hb1
    have Hr1 := Lib.hid hr1
    have Ha1 := Lib.hid ha1
    clear hW1 hb1 hr1 ha1
    go_loopw [6] (fun i wr => ∃ j : Nat, j ≤ n ∧ i = .int .i64 j ∧ Hid (Below w.heap.size w wr ∧ SpAt wr w.heap.size 0 0 0 ∧ SpAt wr (w.heap.size + 1) (n : Int) ((Sp.lfs (s.data.toList.take j) : Int) + 1) ((Sp.tailC 10 (s.data.toList.take j) : Int) + 1))) (fun i _ => n - (intOf i).toNat)
    case atStart => exact ⟨0, by omega, rfl, Hb1.out, Hr1.out, Ha1.out⟩
    case round =>
      obtain ⟨j, hj, rfl, H⟩ := hrel
      obtain ⟨hb, hr, hA⟩ := H.out
      have l1 := Sp.lfs_le (s.data.toList.take j)
      have l2 := Sp.tailC_le 10 (s.data.toList.take j)
      rw [List.length_take, Sp.size_len] at l1 l2
      by_cases hjn : j < n
      · have hjs : j < s.size := by omega
        have ht := Sp.take_snoc s j hjs
        have t1 := Sp.lfs_snoc (s.data.toList.take j) s[j]
        have t2 := Sp.tailC_snoc 10 (s.data.toList.take j) s[j]
        rw [← ht] at t1 t2
        have T1 := Lib.hid t1
        have T2 := Lib.hid t2
        have l1 := Nat.le_trans l1 (Nat.min_le_left _ _)
        have l2 := Nat.le_trans l2 (Nat.min_le_left _ _)
        clear ht t1 t2
        generalize Sp.lfs (s.data.toList.take j) = L at *
        generalize Sp.tailC 10 (s.data.toList.take j) = K at *
        have hA' := hA
        obtain ⟨lA, A0, A1, A2, fA⟩ := hA
        by_cases hc : s[j] = 10
        · have d1 : (s[j].toNat : Int) = 10 := by rw [hc]; rfl
          have d : ((s[j].toNat : Int) == 10) = true := by simp [d1]
          have d2 : decide (s[j].toNat = 10) = true := by rw [hc]; rfl
          have Hc := Lib.hid hc
          clear hc d1
          go_wp2
          go_roundw
          case rel =>
            refine ⟨j + 1, by omega, by go_num, ?_, ?_, ?_⟩
            · exact ((hb.setCell (p := ⟨w.heap.size + 1, 2, none⟩) (by simp) _).setCell (p := ⟨w.heap.size + 1, 1, none⟩) (by simp) _).setCell (p := ⟨w.heap.size + 1, 2, none⟩) (by simp) _
            · refine SpAt.below (B := w.heap.size + 1) hr ?_ (by simp)
              repeat (refine Below.setCell ?_ (by simp) _)
              exact Below.refl _ _
            · rw [T1.out, T2.out, if_pos Hc.out, if_pos Hc.out]
              exact ((hA'.set2 _).set1 _).set2 _
          case measure => simp [intOf]; omega
        · have d : ((s[j].toNat : Int) == 10) = false := by
            have := byte_ne hc; simpa using this
          have d2 : ¬ s[j].toNat = 10 := fun e => hc (UInt8.toNat_inj.1 e)
          have Hc := Lib.hid hc
          clear hc
          go_wp2
          go_roundw
          case rel =>
            refine ⟨j + 1, by omega, by go_num, ?_, ?_, ?_⟩
            · exact hb.setCell (p := ⟨w.heap.size + 1, 2, none⟩) (by simp) _
            · refine SpAt.below (B := w.heap.size + 1) hr ?_ (by simp)
              repeat (refine Below.setCell ?_ (by simp) _)
              exact Below.refl _ _
            · rw [T1.out, T2.out, if_neg Hc.out, if_neg Hc.out]
              exact hA'.set2 _
          case measure => simp [intOf]; omega
      obtain rfl : n = j := by omega

      have l1 := Nat.le_trans l1 (Nat.min_le_left _ _)
      have l2 := Nat.le_trans l2 (Nat.min_le_left _ _)
      obtain ⟨lR, R0, R1, R2, fR⟩ := hr
      obtain ⟨lA, A0, A1, A2, fA⟩ := hA
      generalize hL : Sp.lfs (s.data.toList.take n) = L at *
      generalize hK : Sp.tailC 10 (s.data.toList.take n) = K at *
      have HL := Lib.hid hL
      have HK := Lib.hid hK
      clear hL hK
      go_wp2
      refine bodyPost_ret (v := .agg #[.int .i64 (n : Int), .int .i64 ((L : Int) + 1), .int .i64 ((K : Int) + 1)]) (by simp [results, Try.results9, go_sem, R0, R1, R2]) rfl ⟨agg3 (by omega) (by rw [HL.out]; omega) (by rw [HK.out]; omega), ?_⟩
      repeat (refine Below.setCell ?_ (by simp) _)
      exact hb

set_option maxHeartbeats 1000000 in
theorem refFault_calls (c : Int) (s : ByteArray) (i : Int) (w : World) (hs : s.size ≤ 562949953421312) :
    Calls Try.prog 11 #[.int .i64 c, .string s, .int .i64 i] w fun e w' => e = .returned (Sp.at c s i).v ∧ Below w.heap.size w w' := by
  by_cases hc : c = 0
  · subst hc
    have e : Sp.at 0 s i = Ft.zero := by unfold Sp.at; simp
    rw [e]
    clear e
    go_enter Try.func11, Try.ntmps11
    go_wp2
    refine bodyPost_ret (v := .agg #[.int .i64 0, .int .i64 0, .int .i64 0, .int .i64 0]) (by simp [results, Try.results11, go_sem]) rfl ⟨rfl, ?_⟩
    exact (Below.refl _ _).alloc (Nat.le_refl _) _
  · have e : Sp.at c s i = ⟨c, Sp.off s i, Sp.line s i, Sp.col s i⟩ := by unfold Sp.at; simp [hc]
    rw [e]
    clear e
    have d : (c == 0) = false := by simpa using hc
    go_enter Try.func11, Try.ntmps11
    go_wp2_with fail
    refine (refSpot_calls s i _ hs).mono ?_; rintro e w1 ⟨rfl, b1⟩
    obtain ⟨hcell, hfr⟩ := bcell b1
    go_wp2
    refine bodyPost_ret (v := .agg #[.int .i64 c, .int .i64 (Sp.off s i : Int), .int .i64 (Sp.line s i : Int), .int .i64 (Sp.col s i : Int)]) (by simp [results, Try.results11, go_sem, hcell]) rfl ⟨rfl, ?_⟩
    repeat (refine Below.setCell ?_ (by simp) _)
    exact ((Below.refl _ _).alloc (Nat.le_refl _) _).trans (b1.mono (by simp))

end Go.Proofs.Ytpejphfggfppdaa
