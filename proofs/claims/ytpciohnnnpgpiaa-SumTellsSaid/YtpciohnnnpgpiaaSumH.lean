/- The walk of package sum's decimal. -/
import Derived.Test.YtpciohnnnpgpiaaSumG
set_option linter.unusedVariables false
set_option linter.unusedSimpArgs false
namespace Go.Proofs.Ytpciohnnnpgpiaa
open Go.RowKit Dc

theorem sgnV_in (neg : Bool) {y : Nat} (h : y ≤ big) : -9223372036854775808 ≤ sgnV neg y ∧ sgnV neg y ≤ 9223372036854775807 := by
  unfold big at h
  unfold sgnV
  cases neg
  · simp; omega
  · simp; omega
theorem dec_pad {x z : Nat} (h0 : x % 10 ^ z = 0) : x = x / 10 ^ z * 10 ^ z := by
  have := Nat.div_add_mod' x (10 ^ z)
  omega
theorem dec_exit (neg : Bool) (x s z : Nat) (hz : z ≤ s) (h0 : x % 10 ^ z = 0) : decOf (decide (sgnV neg (x / 10 ^ z) < 0)) (sgnV neg (x / 10 ^ z)).natAbs ((s : Int) - (z : Int)) = decOf neg x s := by
  have e := dec_pad h0
  have hp := decOf_pad neg (x / 10 ^ z) (s - z) z
  rw [← e, Nat.sub_add_cancel hz] at hp
  rw [hp, show ((s - z : Nat) : Int) = (s : Int) - (z : Int) by omega]
  generalize x / 10 ^ z = y at *
  have ha : (sgnV neg y).natAbs = y := by unfold sgnV; split <;> omega
  rw [ha]
  by_cases h : y = 0
  · rw [h]; exact decOf_zero _ _ _
  · have : decide (sgnV neg y < 0) = neg := by
      unfold sgnV
      cases neg
      · simp
      · simp; omega
    rw [this]
theorem dec_none (neg : Bool) (x s z : Nat) (hz : z ≤ s) (h0 : x % 10 ^ z = 0) (hst : z = s ∨ dgt x z ≠ 0) (hb : ¬ x / 10 ^ z ≤ big) : decOf neg x s = none := by
  have e := dec_pad h0
  have hp := decOf_pad neg (x / 10 ^ z) (s - z) z
  rw [← e, Nat.sub_add_cancel hz] at hp
  rw [hp]
  have hd : dgt x z = x / 10 ^ z % 10 := rfl
  rw [hd] at hst
  generalize x / 10 ^ z = y at *
  unfold decOf
  rw [if_neg (by omega), if_neg (by unfold big at hb; omega), Int.toNat_natCast, strip_id _ _ (hst.imp (by omega) id), if_neg]
  rintro ⟨h1, _⟩
  exact hb h1

set_option maxRecDepth 100000 in
set_option maxHeartbeats 4000000 in
theorem decimal_calls (neg : Bool) (x s : Nat) (w : World) (hx : x < 10 ^ 55) (hs : s ≤ 36) :
    Calls Try.prog 28 #[.bool neg, .agg (sA (dgt x)), .int .i64 (s : Nat)] w fun e w' => e = .returned (normV (decOf neg x s)) ∧ Below w.heap.size w w' := by
  have hsz := sA_size (dgt x)
  have hone := sA_one (dgt x)
  have b1 := (Below.refl w.heap.size w).alloc (Nat.le_refl _) (.cells (sA (dgt x)) 43)
  have B2 := Lib.hid (kb_alloc b1 (Nat.le_refl _) (.cells #[.int .i64 0, .int .i64 0] 25))
  have D1 := Lib.hid ((SAt.new w (dgt x)).alloc (.cells #[.int .i64 0, .int .i64 0] 25))
  have E2 := Lib.hid (DecAt.new (w.alloc (.cells (sA (dgt x)) 43)) 0 0)
  rw [show (w.alloc (.cells (sA (dgt x)) 43)).heap.size = w.heap.size + 1 by simp] at E2
  have Hx := Lib.hid hx
  clear b1 hx
  go_enter Try.func28, Try.ntmps28
  go_wp2_with fail
  generalize (w.alloc (.cells (sA (dgt x)) 43)).alloc (.cells #[.int .i64 0, .int .i64 0] 25) = W at *
  clear hsz hone
  go_loop [8] (fun s8 => ∃ z : Nat, z ≤ s ∧ s8 = .int .i64 (z : Nat) ∧ Hid (x % 10 ^ z = 0)) (fun s8 => s - (intOf s8).toNat)
  case atStart => exact ⟨0, Nat.zero_le _, rfl, Nat.mod_one x⟩
  case round =>
    obtain ⟨z, hzs, rfl, HZ⟩ := hrel
    by_cases hlt : z < s
    · have hc := D1.out.cell z (by omega)
      by_cases hd : dgt x z = 0
      · have hstep : Hid (x % 10 ^ (z + 1) = 0) := by
          show _ = _
          rw [mod_step, HZ.out, hd, Nat.zero_mul]
        rw [hd] at hc
        clear hd HZ
        go_wp2_with fail
        go_round
        case rel => exact ⟨z + 1, hlt, by go_num, hstep.out⟩
        case measure => simp [intOf]; omega
      have h0 := HZ.out
      have hstop : z = s ∨ dgt x z ≠ 0 := Or.inr hd
      have hdb : (((dgt x z : Nat) : Int) == 0) = false := by simpa using (by omega : ¬ ((dgt x z : Nat) : Int) = 0)
      clear hd
      have hdn := Lib.hid (fun W => down_calls x z W Hx.out (by omega))
      have hjn := Lib.hid (fun W => join_calls (x / 10 ^ z) (Nat.lt_of_le_of_lt (Nat.div_le_self _ _) Hx.out) W)
      have Hz := Lib.hid (⟨h0, hstop⟩ : _ ∧ _)
      clear h0 hstop HZ
      go_wp2_with (first
        | (refine wpList_load_row rfl 43 _ rfl w.heap.size rfl 43 _ (0, 0) _ D1.out.heap Try.underlying43 rfl (by rw [sA_size]; exact sum_info) ?_))
      refine (hdn.out _).mono ?_; rintro e w1 ⟨rfl, b1⟩
      have A1 := Lib.hid (B2.out.trans (b1.mono B2.out.size))
      have E1 := Lib.hid (E2.out.below b1)
      clear b1 hdn
      go_wp2_with fail
      refine (hjn.out _).mono ?_; rintro e w2 ⟨rfl, b2⟩
      have A2 := Lib.hid (A1.out.trans (b2.mono A1.out.size))
      have E3 := Lib.hid (E1.out.below b2)
      clear b2 hjn A1 E1
      by_cases hbg : x / 10 ^ z ≤ big
      · rw [joinV_le hbg]
        have hsg := Lib.hid (fun W => signed_calls neg (x / 10 ^ z) W hbg)
        have hfin := Lib.hid (dec_exit neg x s z hzs Hz.out.1)
        obtain ⟨m, hm⟩ : ∃ m, sgnV neg (x / 10 ^ z) = m := ⟨_, rfl⟩
        have hmb : -9223372036854775808 ≤ m ∧ m ≤ 9223372036854775807 := by rw [← hm]; exact sgnV_in neg hbg
        rw [hm] at hsg hfin
        have hnm := Lib.hid (fun W => norm_calls m ((s : Int) - (z : Int)) W hmb.1 hmb.2 (by omega))
        rw [hfin.out] at hnm
        clear hm hmb hbg Hz
        generalize x / 10 ^ z = y at *
        go_wp2_with fail
        refine (hsg.out _).mono ?_; rintro e w3 ⟨rfl, rfl⟩
        go_wp2_with fail
        refine (hnm.out _).mono ?_; rintro e w4 ⟨rfl, b4⟩
        have A4 := Lib.hid (A2.out.trans (b4.mono A2.out.size))
        have E4 := E3.out.below b4
        have c0 := E4.c0
        have c1 := E4.c1
        have f0 := E4.f0
        have f1 := E4.f1
        clear b4 hsg hnm A2 E3 E4 hfin
        cases ho : decOf neg x (s : Int) with
        | none =>
          rw [show normV none = Value.tuple #[dv2 0 0, .bool false] from rfl]
          have Ho := Lib.hid ho
          clear ho
          go_wp2_with fail
          refine bodyPost_ret (v := normV none) (by simp [results, Try.results28, go_sem, normV, c0, c1, f0, f1]) rfl ⟨by rw [Ho.out], ?_⟩
          repeat (refine Below.setCell ?_ (by simp) _)
          exact A4.out
        | some r =>
          obtain ⟨a, k⟩ := r
          rw [show normV (some (a, k)) = Value.tuple #[dv2 a k, .bool true] from rfl]
          have Ho := Lib.hid ho
          clear ho
          go_wp2_with fail
          refine bodyPost_ret (v := normV (some (a, k))) (by simp [results, Try.results28, go_sem, normV, c0, c1, f0, f1]) rfl ⟨by rw [Ho.out], ?_⟩
          repeat (refine Below.setCell ?_ (by simp) _)
          exact A4.out
      · rw [joinV_gt hbg]
        have hn := Lib.hid (dec_none neg x s z hzs Hz.out.1 Hz.out.2 hbg)
        have E4 := E3.out
        have c0 := E4.c0
        have c1 := E4.c1
        have f0 := E4.f0
        have f1 := E4.f1
        clear E3 E4 hbg Hz
        go_wp2_with fail
        refine bodyPost_ret (v := normV none) (by simp [results, Try.results28, go_sem, normV, c0, c1, f0, f1]) rfl ⟨by rw [hn.out], ?_⟩
        repeat (refine Below.setCell ?_ (by simp) _)
        exact A2.out
    · have h0 := HZ.out
      have hstop : z = s ∨ dgt x z ≠ 0 := Or.inl (by omega)
      have hdn := Lib.hid (fun W => down_calls x z W Hx.out (by omega))
      have hjn := Lib.hid (fun W => join_calls (x / 10 ^ z) (Nat.lt_of_le_of_lt (Nat.div_le_self _ _) Hx.out) W)
      have Hz := Lib.hid (⟨h0, hstop⟩ : _ ∧ _)
      clear h0 hstop HZ
      go_wp2_with (first
        | (refine wpList_load_row rfl 43 _ rfl w.heap.size rfl 43 _ (0, 0) _ D1.out.heap Try.underlying43 rfl (by rw [sA_size]; exact sum_info) ?_))
      refine (hdn.out _).mono ?_; rintro e w1 ⟨rfl, b1⟩
      have A1 := Lib.hid (B2.out.trans (b1.mono B2.out.size))
      have E1 := Lib.hid (E2.out.below b1)
      clear b1 hdn
      go_wp2_with fail
      refine (hjn.out _).mono ?_; rintro e w2 ⟨rfl, b2⟩
      have A2 := Lib.hid (A1.out.trans (b2.mono A1.out.size))
      have E3 := Lib.hid (E1.out.below b2)
      clear b2 hjn A1 E1
      by_cases hbg : x / 10 ^ z ≤ big
      · rw [joinV_le hbg]
        have hsg := Lib.hid (fun W => signed_calls neg (x / 10 ^ z) W hbg)
        have hfin := Lib.hid (dec_exit neg x s z hzs Hz.out.1)
        obtain ⟨m, hm⟩ : ∃ m, sgnV neg (x / 10 ^ z) = m := ⟨_, rfl⟩
        have hmb : -9223372036854775808 ≤ m ∧ m ≤ 9223372036854775807 := by rw [← hm]; exact sgnV_in neg hbg
        rw [hm] at hsg hfin
        have hnm := Lib.hid (fun W => norm_calls m ((s : Int) - (z : Int)) W hmb.1 hmb.2 (by omega))
        rw [hfin.out] at hnm
        clear hm hmb hbg Hz
        generalize x / 10 ^ z = y at *
        go_wp2_with fail
        refine (hsg.out _).mono ?_; rintro e w3 ⟨rfl, rfl⟩
        go_wp2_with fail
        refine (hnm.out _).mono ?_; rintro e w4 ⟨rfl, b4⟩
        have A4 := Lib.hid (A2.out.trans (b4.mono A2.out.size))
        have E4 := E3.out.below b4
        have c0 := E4.c0
        have c1 := E4.c1
        have f0 := E4.f0
        have f1 := E4.f1
        clear b4 hsg hnm A2 E3 E4 hfin
        cases ho : decOf neg x (s : Int) with
        | none =>
          rw [show normV none = Value.tuple #[dv2 0 0, .bool false] from rfl]
          have Ho := Lib.hid ho
          clear ho
          go_wp2_with fail
          refine bodyPost_ret (v := normV none) (by simp [results, Try.results28, go_sem, normV, c0, c1, f0, f1]) rfl ⟨by rw [Ho.out], ?_⟩
          repeat (refine Below.setCell ?_ (by simp) _)
          exact A4.out
        | some r =>
          obtain ⟨a, k⟩ := r
          rw [show normV (some (a, k)) = Value.tuple #[dv2 a k, .bool true] from rfl]
          have Ho := Lib.hid ho
          clear ho
          go_wp2_with fail
          refine bodyPost_ret (v := normV (some (a, k))) (by simp [results, Try.results28, go_sem, normV, c0, c1, f0, f1]) rfl ⟨by rw [Ho.out], ?_⟩
          repeat (refine Below.setCell ?_ (by simp) _)
          exact A4.out
      · rw [joinV_gt hbg]
        have hn := Lib.hid (dec_none neg x s z hzs Hz.out.1 Hz.out.2 hbg)
        have E4 := E3.out
        have c0 := E4.c0
        have c1 := E4.c1
        have f0 := E4.f0
        have f1 := E4.f1
        clear E3 E4 hbg Hz
        go_wp2_with fail
        refine bodyPost_ret (v := normV none) (by simp [results, Try.results28, go_sem, normV, c0, c1, f0, f1]) rfl ⟨by rw [hn.out], ?_⟩
        repeat (refine Below.setCell ?_ (by simp) _)
        exact A2.out

end Go.Proofs.Ytpciohnnnpgpiaa
