/- The walks of the laws StampBounds and StampBack. -/
import Derived.Test.YtmbpldnclnahmaaDoorStampK
import Derived.Test.YtmbpldnclnahmaaDoorRefDecF
import Derived.Test.YtmbpldnclnahmaaDoorFrame
set_option maxRecDepth 100000
set_option linter.unusedVariables false
set_option linter.unusedSimpArgs false
namespace Go.Proofs.YtmbpldnclnahmaaDoor
open Go.RowKit Dc

theorem ms_is {n t : Int} {u : Nat} (hu : u < 4) (h1 : -9223372036854775808 ≤ n) (h2 : n ≤ 9223372036854775807) (h : t * 10 ^ (3 * u) = n * 1000) (ht : isT t = true) (w : World) (hp : Pl w) :
    Calls Tryd.prog 16 #[.int .i64 n, .int .i64 (u : Nat)] w fun e w' => e = .returned (.tuple #[.int .i64 t, .bool true]) ∧ Below w.heap.size w w' := by
  have hc := ms_calls n u w hp h1 h2
  rwa [(msO_iff n u hu h1 h2 t).2 ⟨h, ht⟩] at hc
theorem ms_no {n : Int} {u : Nat} (hu : u < 4) (h1 : -9223372036854775808 ≤ n) (h2 : n ≤ 9223372036854775807) (h : ∀ t, t * 10 ^ (3 * u) = n * 1000 → isT t = true → False) (w : World) (hp : Pl w) :
    Calls Tryd.prog 16 #[.int .i64 n, .int .i64 (u : Nat)] w fun e w' => e = .returned (.tuple #[.int .i64 0, .bool false]) ∧ Below w.heap.size w w' := by
  have hc := ms_calls n u w hp h1 h2
  rwa [show msO n u = none from Option.eq_none_iff_forall_ne_some.2 fun t e => by have := (msO_iff n u hu h1 h2 t).1 e; exact h t this.1 this.2] at hc
theorem of_no {x u : Int} (h1 : -9223372036854775808 ≤ x) (h2 : x ≤ 9223372036854775807) (h : ofO x u = none) (w : World) (hp : Pl w) :
    Calls Tryd.prog 18 #[.int .i64 x, .int .i64 u] w fun e w' => e = .returned (.tuple #[.int .i64 0, .bool false]) ∧ Below w.heap.size w w' := by
  have hc := of_calls x u w hp h1 h2
  rwa [h] at hc
theorem text_ne {x : Int} (h : isT x = true) : textO x ≠ [] := by
  obtain ⟨m, k, hs, hd⟩ := sOf_some h
  unfold textO
  rw [hs]
  exact print_ne _ _ (decOf_num hd).2.2.2.1
theorem text_no {x : Int} (h : isT x = false) : textO x = [] := by unfold textO; rw [sOf_none h]

set_option maxHeartbeats 4000000 in
theorem bounds_false (u : Int) (w : World) (hp : Pl w) (hu0 : 0 ≤ u) (hu1 : u ≤ 255) :
    Calls Tryd.prog 5 #[.bool false, .int .u8 u] w fun e w' => e = .returned (.bool true) ∧ Below w.heap.size w w' := by
  have kB := Below.refl w.heap.size w
  have hne := text_ne (x := 1125899906842624) (by decide)
  have hno := text_no (x := 1125899906842625) (by decide)
  go_enter Tryd.func5, Tryd.ntmps5
  go_wp2_with fail
  refine (known_calls _ hp).mono ?_; rintro e w1 ⟨rfl, b⟩
  replace kB := kB.trans (b.mono kB.size); replace hp := hp.below b; clear b
  go_wp2_with fail
  refine (ms_is (n := 1125899906842624) (t := 1125899906842624) (u := 1) (by omega) (by omega) (by omega) (by decide) (by decide) _ hp).mono ?_; rintro e w2 ⟨rfl, b⟩
  replace kB := kB.trans (b.mono kB.size); replace hp := hp.below b; clear b
  go_wp2_with fail
  refine (ms_no (n := 1125899906842625) (u := 1) (by omega) (by omega) (by omega) (fun t h1 h2 => by rw [isT_iff] at h2; simp at h1; omega) _ hp).mono ?_; rintro e w3 ⟨rfl, b⟩
  replace kB := kB.trans (b.mono kB.size); replace hp := hp.below b; clear b
  go_wp2_with fail
  refine (ms_is (n := 1125899906842624000) (t := 1125899906842624) (u := 2) (by omega) (by omega) (by omega) (by decide) (by decide) _ hp).mono ?_; rintro e w4 ⟨rfl, b⟩
  replace kB := kB.trans (b.mono kB.size); replace hp := hp.below b; clear b
  go_wp2_with fail
  refine (ms_no (n := 1125899906842625000) (u := 2) (by omega) (by omega) (by omega) (fun t h1 h2 => by rw [isT_iff] at h2; simp at h1; omega) _ hp).mono ?_; rintro e w5 ⟨rfl, b⟩
  replace kB := kB.trans (b.mono kB.size); replace hp := hp.below b; clear b
  go_wp2_with fail
  refine (of_no (x := 1125899906842625) (u := u % 4) (by omega) (by omega) (ofO_none _ _ (Or.inl (by decide))) _ hp).mono ?_; rintro e w6 ⟨rfl, b⟩
  replace kB := kB.trans (b.mono kB.size); replace hp := hp.below b; clear b
  go_wp2_with fail
  refine (ms_no (n := 1125899906842624) (u := 0) (by omega) (by omega) (by omega) (fun t h1 h2 => by rw [isT_iff] at h2; simp at h1; omega) _ hp).mono ?_; rintro e w7 ⟨rfl, b⟩
  replace kB := kB.trans (b.mono kB.size); replace hp := hp.below b; clear b
  go_wp2_with fail
  refine (of_no (x := 1125899906842624) (u := 3) (by omega) (by omega) (by rw [← ofO_ref]; decide) _ hp).mono ?_; rintro e w8 ⟨rfl, b⟩
  replace kB := kB.trans (b.mono kB.size); replace hp := hp.below b; clear b
  go_wp2_with fail
  refine (text_calls 1125899906842624 _ hp (by omega) (by omega)).mono ?_; rintro e w9 ⟨rfl, b⟩
  replace kB := kB.trans (b.mono kB.size); replace hp := hp.below b; clear b
  have hem : (textO 1125899906842624).isEmpty = false := by simpa using hne
  generalize textO 1125899906842624 = l at *
  go_wp2_with fail
  refine (text_calls 1125899906842625 _ hp (by omega) (by omega)).mono ?_; rintro e w10 ⟨rfl, b⟩
  replace kB := kB.trans (b.mono kB.size); clear b hp
  rw [hno]
  go_wp2_with fail
  go_ret
  exact ⟨rfl, kB⟩

set_option maxHeartbeats 4000000 in
theorem bounds_true (u : Int) (w : World) (hp : Pl w) (hu0 : 0 ≤ u) (hu1 : u ≤ 255) :
    Calls Tryd.prog 5 #[.bool true, .int .u8 u] w fun e w' => e = .returned (.bool true) ∧ Below w.heap.size w w' := by
  have kB := Below.refl w.heap.size w
  have hne := text_ne (x := (-1125899906842624)) (by decide)
  have hno := text_no (x := (-1125899906842625)) (by decide)
  go_enter Tryd.func5, Tryd.ntmps5
  go_wp2_with fail
  refine (known_calls _ hp).mono ?_; rintro e w1 ⟨rfl, b⟩
  replace kB := kB.trans (b.mono kB.size); replace hp := hp.below b; clear b
  go_wp2_with fail
  refine (ms_is (n := (-1125899906842624)) (t := (-1125899906842624)) (u := 1) (by omega) (by omega) (by omega) (by decide) (by decide) _ hp).mono ?_; rintro e w2 ⟨rfl, b⟩
  replace kB := kB.trans (b.mono kB.size); replace hp := hp.below b; clear b
  go_wp2_with fail
  refine (ms_no (n := (-1125899906842625)) (u := 1) (by omega) (by omega) (by omega) (fun t h1 h2 => by rw [isT_iff] at h2; simp at h1; omega) _ hp).mono ?_; rintro e w3 ⟨rfl, b⟩
  replace kB := kB.trans (b.mono kB.size); replace hp := hp.below b; clear b
  go_wp2_with fail
  refine (ms_is (n := (-1125899906842624000)) (t := (-1125899906842624)) (u := 2) (by omega) (by omega) (by omega) (by decide) (by decide) _ hp).mono ?_; rintro e w4 ⟨rfl, b⟩
  replace kB := kB.trans (b.mono kB.size); replace hp := hp.below b; clear b
  go_wp2_with fail
  refine (ms_no (n := (-1125899906842625000)) (u := 2) (by omega) (by omega) (by omega) (fun t h1 h2 => by rw [isT_iff] at h2; simp at h1; omega) _ hp).mono ?_; rintro e w5 ⟨rfl, b⟩
  replace kB := kB.trans (b.mono kB.size); replace hp := hp.below b; clear b
  go_wp2_with fail
  refine (of_no (x := (-1125899906842625)) (u := u % 4) (by omega) (by omega) (ofO_none _ _ (Or.inl (by decide))) _ hp).mono ?_; rintro e w6 ⟨rfl, b⟩
  replace kB := kB.trans (b.mono kB.size); replace hp := hp.below b; clear b
  go_wp2_with fail
  refine (ms_no (n := (-1125899906842624)) (u := 0) (by omega) (by omega) (by omega) (fun t h1 h2 => by rw [isT_iff] at h2; simp at h1; omega) _ hp).mono ?_; rintro e w7 ⟨rfl, b⟩
  replace kB := kB.trans (b.mono kB.size); replace hp := hp.below b; clear b
  go_wp2_with fail
  refine (of_no (x := (-1125899906842624)) (u := 3) (by omega) (by omega) (by rw [← ofO_ref]; decide) _ hp).mono ?_; rintro e w8 ⟨rfl, b⟩
  replace kB := kB.trans (b.mono kB.size); replace hp := hp.below b; clear b
  go_wp2_with fail
  refine (text_calls (-1125899906842624) _ hp (by omega) (by omega)).mono ?_; rintro e w9 ⟨rfl, b⟩
  replace kB := kB.trans (b.mono kB.size); replace hp := hp.below b; clear b
  have hem : (textO (-1125899906842624)).isEmpty = false := by simpa using hne
  generalize textO (-1125899906842624) = l at *
  go_wp2_with fail
  refine (text_calls (-1125899906842625) _ hp (by omega) (by omega)).mono ?_; rintro e w10 ⟨rfl, b⟩
  replace kB := kB.trans (b.mono kB.size); clear b hp
  rw [hno]
  go_wp2_with fail
  go_ret
  exact ⟨rfl, kB⟩

theorem bounds_walk (neg : Bool) (u : Int) (w : World) (hp : Pl w) (hu0 : 0 ≤ u) (hu1 : u ≤ 255) :
    Calls Tryd.prog 5 #[.bool neg, .int .u8 u] w fun e w' => e = .returned (.bool true) ∧ Below w.heap.size w w' := by
  cases neg
  · exact bounds_false u w hp hu0 hu1
  · exact bounds_true u w hp hu0 hu1

theorem sec_of_time {t m : Int} {k : Nat} (ht : isT t = true) (h : decOf (decide (t < 0)) t.natAbs ((3 : Nat) : Int) = some (m, k)) : secO m k = some t := by
  unfold secO
  rw [timeO_iff, show (3 : Int) = ((3 : Nat) : Int) from rfl, at_iff (by omega) h t]
  have := isT_abs ht
  exact ⟨⟨rfl, by unfold big; omega⟩, ht⟩
theorem of_milli {t : Int} (ht : isT t = true) : ofO t 1 = some t := by
  have := isT_abs ht
  exact (ofO_iff t 1 (by omega) t).2 ⟨ht, by simp, by unfold big; omega⟩
theorem ms_back {t n : Int} {k : Nat} (hk : k < 4) (h : ofO t k = some n) : msO n k = some t := by
  obtain ⟨h1, h2, h3⟩ := (ofO_iff t k hk n).1 h
  have hb := ofO_b h
  exact (msO_iff n k hk (by omega) (by omega) t).2 ⟨h2.symm, h1⟩
theorem tmod_time (x : Int) : isT (x.tmod 1125899906842625) = true := by
  rw [isT_iff]
  have h1 := Int.tmod_lt_of_pos x (show (0 : Int) < 1125899906842625 by decide)
  have h2 := Int.lt_tmod_of_pos x (show (0 : Int) < 1125899906842625 by decide)
  omega

set_option maxHeartbeats 4000000 in
theorem back_walk (x u : Int) (w : World) (hp : Pl w) (hx1 : -9223372036854775808 ≤ x) (hx2 : x ≤ 9223372036854775807) (hu0 : 0 ≤ u) (hu1 : u ≤ 255) :
    Calls Tryd.prog 4 #[.int .i64 x, .int .u8 u] w fun e w' => e = .returned (.bool true) ∧ Below w.heap.size w w' := by
  have kB := Below.refl w.heap.size w
  obtain ⟨t, ht⟩ : ∃ t, t = x.tmod 1125899906842625 := ⟨_, rfl⟩
  obtain ⟨k, hk4, hk⟩ : ∃ k : Nat, k < 4 ∧ (k : Int) = u % 4 := ⟨(u % 4).toNat, by omega, by omega⟩
  have htt : isT t = true := by rw [ht]; exact tmod_time x
  obtain ⟨ht1, ht2⟩ := (isT_iff t).1 htt
  obtain ⟨m, j, hs, hd⟩ := sOf_some htt
  obtain ⟨hm1, hm2⟩ := sOf_b hs
  have hsec := Lib.hid (sec_of_time htt hd)
  have hmil := Lib.hid (of_milli htt)
  obtain ⟨_, _, _, hgd, hbg⟩ := decOf_num hd
  have htx : Hid (textO t = printL m j) := by show _ = _; unfold textO; rw [hs]
  have hln := Lib.hid (printL_len m j hbg)
  have hpp := Lib.hid (parse_print m j hbg hgd)
  have hwr : IntKind.i64.wrap (x.tmod 1125899906842625) = x.tmod 1125899906842625 := IntWalk.i64_in _ (by omega)
  clear hs hd hgd hbg htt
  go_enter Tryd.func4, Tryd.ntmps4
  go_wp2_with fail
  refine (known_calls _ hp).mono ?_; rintro e w1 ⟨rfl, b⟩
  replace kB := kB.trans (b.mono kB.size); replace hp := hp.below b; clear b
  go_wp2_with fail
  rw [← ht, ← hk]
  clear hwr ht hk
  have hback := Lib.hid (fun n (h : ofO t k = some n) => ms_back hk4 h)
  have hob := Lib.hid (fun n (h : ofO t k = some n) => ofO_b h)
  refine (of_calls t k _ hp (by omega) (by omega)).mono ?_; rintro e w2 ⟨rfl, b⟩
  replace kB := kB.trans (b.mono kB.size); replace hp := hp.below b; clear b
  cases ho : ofO t k with
  | none =>
    clear ho hback hob
    rw [show scaledV none = .tuple #[.int .i64 0, .bool false] from rfl]
    go_wp2_with fail
    refine (text_calls t _ hp (by omega) (by omega)).mono ?_; rintro e w4 ⟨rfl, b⟩
    replace kB := kB.trans (b.mono kB.size); replace hp := hp.below b; clear b
    rw [htx.out]
    go_wp2_with fail
    refine (rparse_calls (printL m j) _ (by have := hln.out; omega)).mono ?_; rintro e w5 ⟨rfl, b⟩
    replace kB := kB.trans (b.mono kB.size); replace hp := hp.below b; clear b
    rw [hpp.out, show rparseV ((m, (j : Int)), 0, 0) = .tuple #[dv2 m j, .int .i64 0, .int .i64 0] from rfl]
    replace kB := kb_alloc kB (Nat.le_refl _) (.cells #[.int .i64 m, .int .i64 j] 23)
    replace hp := hp.alloc (.cells #[.int .i64 m, .int .i64 j] 23)
    have kd := DecAt.new w5 m j
    obtain ⟨p0, p1, p2, p3, p4⟩ := kd
    go_wp2_with fail
    refine (sec_calls m j _ hp hm1 hm2).mono ?_; rintro e w6 ⟨rfl, b⟩
    replace kB := kB.trans (b.mono kB.size); replace hp := hp.below b; clear b p0 p1 p2 p3 p4
    rw [hsec.out, show scaledV (some t) = .tuple #[.int .i64 t, .bool true] from rfl]
    go_wp2_with fail
    refine (of_calls t 1 _ hp (by omega) (by omega)).mono ?_; rintro e w7 ⟨rfl, b⟩
    replace kB := kB.trans (b.mono kB.size); clear b hp
    rw [hmil.out, show scaledV (some t) = .tuple #[.int .i64 t, .bool true] from rfl]
    go_wp2_with fail
    go_ret
    exact ⟨rfl, kB⟩
  | some n =>
    have hb := hback.out n ho
    obtain ⟨hn1, hn2⟩ := hob.out n ho
    clear ho hback hob
    have hm := Lib.hid hb
    clear hb
    rw [show scaledV (some n) = .tuple #[.int .i64 n, .bool true] from rfl]
    go_wp2_with fail
    refine (ms_calls n k _ hp (by omega) (by omega)).mono ?_; rintro e w3 ⟨rfl, b⟩
    replace kB := kB.trans (b.mono kB.size); replace hp := hp.below b; clear b
    rw [hm.out, show scaledV (some t) = .tuple #[.int .i64 t, .bool true] from rfl]
    go_wp2_with fail
    refine (text_calls t _ hp (by omega) (by omega)).mono ?_; rintro e w4 ⟨rfl, b⟩
    replace kB := kB.trans (b.mono kB.size); replace hp := hp.below b; clear b
    rw [htx.out]
    go_wp2_with fail
    refine (rparse_calls (printL m j) _ (by have := hln.out; omega)).mono ?_; rintro e w5 ⟨rfl, b⟩
    replace kB := kB.trans (b.mono kB.size); replace hp := hp.below b; clear b
    rw [hpp.out, show rparseV ((m, (j : Int)), 0, 0) = .tuple #[dv2 m j, .int .i64 0, .int .i64 0] from rfl]
    replace kB := kb_alloc kB (Nat.le_refl _) (.cells #[.int .i64 m, .int .i64 j] 23)
    replace hp := hp.alloc (.cells #[.int .i64 m, .int .i64 j] 23)
    have kd := DecAt.new w5 m j
    obtain ⟨p0, p1, p2, p3, p4⟩ := kd
    go_wp2_with fail
    refine (sec_calls m j _ hp hm1 hm2).mono ?_; rintro e w6 ⟨rfl, b⟩
    replace kB := kB.trans (b.mono kB.size); replace hp := hp.below b; clear b p0 p1 p2 p3 p4
    rw [hsec.out, show scaledV (some t) = .tuple #[.int .i64 t, .bool true] from rfl]
    go_wp2_with fail
    refine (of_calls t 1 _ hp (by omega) (by omega)).mono ?_; rintro e w7 ⟨rfl, b⟩
    replace kB := kB.trans (b.mono kB.size); clear b hp
    rw [hmil.out, show scaledV (some t) = .tuple #[.int .i64 t, .bool true] from rfl]
    go_wp2_with fail
    go_ret
    exact ⟨rfl, kB⟩

end Go.Proofs.YtmbpldnclnahmaaDoor
