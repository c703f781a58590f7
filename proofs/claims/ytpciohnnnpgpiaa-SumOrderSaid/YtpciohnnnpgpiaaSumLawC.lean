/- The walk of the law SumOrder. -/
import Derived.Test.YtpciohnnnpgpiaaSumL
import Derived.Test.YtpciohnnnpgpiaaFrame
import Derived.Deep.DeepCutAuto
import Derived.Deep.DeepCutAuto
namespace Go.Proofs.Ytpciohnnnpgpiaa
open Go.RowKit Dc
attribute [local go_sem ↓] Go.wp_at_zero Go.wp_at_succ

theorem ord3_sub (x y : Int) : ord3 (x - y) 0 = ord3 x y := by
  rcases ord3_cases x y with ⟨h, e⟩ | ⟨h, e⟩ | ⟨h, e⟩
  · rw [e]; exact ord3_lt (by omega)
  · rw [e]; exact ord3_gt (by omega)
  · rw [e]; exact ord3_eq (by omega)
theorem ord3_swap (x y : Int) : ord3 y x = - ord3 x y := by
  rcases ord3_cases x y with ⟨h, e⟩ | ⟨h, e⟩ | ⟨h, e⟩
  · rw [e]; exact ord3_gt h
  · rw [e]; exact ord3_lt h
  · rw [e]; exact ord3_eq h.symm
set_option maxRecDepth 100000 in
set_option maxHeartbeats 8000000 in
theorem order_walk (m n o x y z : Int) (w : World) (hm : -9223372036854775808 ≤ m) (hm2 : m ≤ 9223372036854775807) (hn : -9223372036854775808 ≤ n) (hn2 : n ≤ 9223372036854775807) (ho : -9223372036854775808 ≤ o) (ho2 : o ≤ 9223372036854775807) (hx : 0 ≤ x) (hx2 : x ≤ 255) (hy : 0 ≤ y) (hy2 : y ≤ 255) (hz : 0 ≤ z) (hz2 : z ≤ 255) :
    Calls Try.prog 6 #[.int .i64 m, .int .i64 n, .int .i64 o, .int .u8 x, .int .u8 y, .int .u8 z] w fun e w' => e = .returned (.bool true) ∧ Below w.heap.size w w' := by
  have hdp := Lib.hid (fun W => dot_calls m (x % 19) W hm hm2 (by omega) (by omega))
  have gp := Gd.dot m (x % 19)
  obtain ⟨p, hp⟩ : ∃ u, u = (dotO m (x % 19)).1 := ⟨_, rfl⟩
  obtain ⟨i, hi⟩ : ∃ u, u = (dotO m (x % 19)).2 := ⟨_, rfl⟩
  rw [← hp, ← hi] at hdp gp
  clear hp hi
  have hdq := Lib.hid (fun W => dot_calls n (y % 19) W hn hn2 (by omega) (by omega))
  have gq := Gd.dot n (y % 19)
  obtain ⟨q, hq⟩ : ∃ u, u = (dotO n (y % 19)).1 := ⟨_, rfl⟩
  obtain ⟨j, hj⟩ : ∃ u, u = (dotO n (y % 19)).2 := ⟨_, rfl⟩
  rw [← hq, ← hj] at hdq gq
  clear hq hj
  have hdr := Lib.hid (fun W => dot_calls o (z % 19) W ho ho2 (by omega) (by omega))
  have gr := Gd.dot o (z % 19)
  obtain ⟨r, hr⟩ : ∃ u, u = (dotO o (z % 19)).1 := ⟨_, rfl⟩
  obtain ⟨k, hk⟩ : ∃ u, u = (dotO o (z % 19)).2 := ⟨_, rfl⟩
  rw [← hr, ← hk] at hdr gr
  clear hr hk
  obtain ⟨xo, exo⟩ : ∃ u, u = ord3 (zv p i) (zv q j) := ⟨_, rfl⟩
  obtain ⟨yo, eyo⟩ : ∃ u, u = ord3 (zv q j) (zv r k) := ⟨_, rfl⟩
  obtain ⟨zo, ezo⟩ : ∃ u, u = ord3 (zv p i) (zv r k) := ⟨_, rfl⟩
  have hC1 := Lib.hid (fun W => cmp_of p i q j W xo (by rw [cmpO_good gp gq]; exact exo.symm) gp.lo gp.hi gq.lo gq.hi)
  have hC2 := Lib.hid (fun W => cmp_of q j r k W yo (by rw [cmpO_good gq gr]; exact eyo.symm) gq.lo gq.hi gr.lo gr.hi)
  have hC3 := Lib.hid (fun W => cmp_of p i r k W zo (by rw [cmpO_good gp gr]; exact ezo.symm) gp.lo gp.hi gr.lo gr.hi)
  have hC4 := Lib.hid (fun W => cmp_of q j p i W (-xo) (by rw [cmpO_good gq gp, ord3_swap, exo]) gq.lo gq.hi gp.lo gp.hi)
  have hX : Hid (xo = -1 ∨ xo = 0 ∨ xo = 1) := by
    rcases ord3_cases (zv p i) (zv q j) with ⟨_, e⟩ | ⟨_, e⟩ | ⟨_, e⟩
    · exact Or.inl (exo.trans e)
    · exact Or.inr (Or.inr (exo.trans e))
    · exact Or.inr (Or.inl (exo.trans e))
  have hXE : Hid (decide (xo = 0) = decide (p = q ∧ i = j)) := by
    refine decide_eq_decide.2 ⟨fun h => ?_, fun h => ?_⟩
    · rcases ord3_cases (zv p i) (zv q j) with ⟨_, e⟩ | ⟨_, e⟩ | ⟨he, e⟩
      · omega
      · omega
      · exact gp.inj gq he
    · rw [exo, h.1, h.2]; exact ord3_eq rfl
  have hXYZ : Hid (xo ≤ 0 → yo ≤ 0 → zo ≤ 0) := fun h1 h2 => by
    rcases ord3_cases (zv p i) (zv q j) with ⟨a, e⟩ | ⟨a, e⟩ | ⟨a, e⟩ <;> rcases ord3_cases (zv q j) (zv r k) with ⟨b, f⟩ | ⟨b, f⟩ | ⟨b, f⟩ <;> rcases ord3_cases (zv p i) (zv r k) with ⟨c, g⟩ | ⟨c, g⟩ | ⟨c, g⟩ <;> omega
  have hA3 := Lib.hid (fun W v hv => add2_calls gp gr v W hv)
  have hN1 := Lib.hid (fun W => neg_calls gq W)
  have hxo := Lib.hid exo
  have kB := Below.refl w.heap.size w
  clear exo eyo ezo hm hm2 hn hn2 ho ho2
  go_enter Try.func6, Try.ntmps6
  go_wp2_with fail
  refine (known_calls _).mono ?_; rintro e w1 ⟨rfl, b1⟩
  replace kB := kB.trans (b1.mono kB.size)
  clear b1
  go_wp2_with fail
  refine (hdp.out _).mono ?_; rintro e w2 ⟨rfl, b2⟩
  replace kB := kB.trans (b2.mono kB.size)
  clear b2
  go_wp2_with fail
  refine (hdq.out _).mono ?_; rintro e w3 ⟨rfl, b3⟩
  replace kB := kB.trans (b3.mono kB.size)
  clear b3
  go_wp2_with fail
  refine (hdr.out _).mono ?_; rintro e w4 ⟨rfl, b4⟩
  replace kB := kB.trans (b4.mono kB.size)
  clear b4
  replace kB := kb_alloc kB (Nat.le_refl _) (.cells #[.int .i64 p, .int .i64 i] 25)
  have kd13 := DecAt.new w4 p i
  replace kB := kb_alloc kB (Nat.le_refl _) (.cells #[.int .i64 q, .int .i64 j] 25)
  replace kd13 := kd13.alloc (.cells #[.int .i64 q, .int .i64 j] 25)
  have kd14 := DecAt.new (w4.alloc (.cells #[.int .i64 p, .int .i64 i] 25)) q j
  replace kB := kb_alloc kB (Nat.le_refl _) (.cells #[.int .i64 r, .int .i64 k] 25)
  replace kd13 := kd13.alloc (.cells #[.int .i64 r, .int .i64 k] 25)
  replace kd14 := kd14.alloc (.cells #[.int .i64 r, .int .i64 k] 25)
  have kd15 := DecAt.new ((w4.alloc (.cells #[.int .i64 p, .int .i64 i] 25)).alloc (.cells #[.int .i64 q, .int .i64 j] 25)) r k
  go_upto_region 4 with (fail)
  obtain ⟨W5, hcur⟩ : ∃ uu, uu = ((w4.alloc (.cells #[.int .i64 p, .int .i64 i] 25)).alloc (.cells #[.int .i64 q, .int .i64 j] 25)).alloc (.cells #[.int .i64 r, .int .i64 k] 25) := ⟨_, rfl⟩
  rw [← hcur] at kB kd13 kd14 kd15 ⊢
  clear hcur
  rw [show ((w4.alloc (.cells #[.int .i64 p, .int .i64 i] 25)).alloc (.cells #[.int .i64 q, .int .i64 j] 25)).heap.size = w4.heap.size + 1 + 1 by simp] at kd15
  obtain ⟨z15, hcur⟩ : ∃ uu, uu = w4.heap.size + 1 + 1 := ⟨_, rfl⟩
  rw [← hcur] at kd15 ⊢
  clear hcur
  rw [show (w4.alloc (.cells #[.int .i64 p, .int .i64 i] 25)).heap.size = w4.heap.size + 1 by simp] at kd14
  obtain ⟨z14, hcur⟩ : ∃ uu, uu = w4.heap.size + 1 := ⟨_, rfl⟩
  rw [← hcur] at kd14 ⊢
  clear hcur
  obtain ⟨z13, hcur⟩ : ∃ uu, uu = w4.heap.size := ⟨_, rfl⟩
  rw [← hcur] at kd13 ⊢
  clear hcur
  refine wp_region_noPanic ?_
  refine wp_region_held_drew (S := fun X => Below w.heap.size w X ∧ DecAt X z13 p i ∧ DecAt X z14 q j ∧ DecAt X z15 r k) (by kernel_rfl) ?_ (fun hHeld => ?_)
  · exact ⟨Below.drew kB, DecAt.drew kd13, DecAt.drew kd14, DecAt.drew kd15⟩
  replace kB := Below.drew kB
  replace kd13 := DecAt.drew kd13
  replace kd14 := DecAt.drew kd14
  replace kd15 := DecAt.drew kd15
  obtain ⟨qw, hcur⟩ : ∃ uu, uu = W5.drew := ⟨_, rfl⟩
  rw [← hcur] at hHeld kB kd13 kd14 kd15 ⊢
  clear hcur
  refine wpAnyH_take (i := 0) (v := ?_) (by simp only [List.getElem?_toArray, List.getElem?_cons_succ, List.getElem?_cons_zero]; rfl) (by kernel_rfl) (by kernel_rfl) (by kernel_rfl) (fun _ _ _ h => h) (Or.inl ⟨by rfl, ?_⟩) hHeld ?_
  rotate_left
  · intro x hSw; (try dsimp only at hSw); obtain ⟨_, hd13, hd14, hd15⟩ := hSw; have c0d13 := hd13.c0; have c1d13 := hd13.c1; have c0d14 := hd14.c0; have c1d14 := hd14.c1; have c0d15 := hd15.c0; have c1d15 := hd15.c1; first | (go_simp; done) | (go_simp; with_reducible rfl)
  try simp only [Act.put, List.setIfInBounds_toArray, List.set_cons_zero, List.set_cons_succ]
  refine wpAnyH_take (i := 1) (v := ?_) (by simp only [List.getElem?_toArray, List.getElem?_cons_succ, List.getElem?_cons_zero]; rfl) (by kernel_rfl) (by kernel_rfl) (by kernel_rfl) (fun _ _ _ h => h) (Or.inl ⟨by rfl, ?_⟩) hHeld ?_
  rotate_left
  · intro x hSw; (try dsimp only at hSw); obtain ⟨_, hd13, hd14, hd15⟩ := hSw; have c0d13 := hd13.c0; have c1d13 := hd13.c1; have c0d14 := hd14.c0; have c1d14 := hd14.c1; have c0d15 := hd15.c0; have c1d15 := hd15.c1; first | (go_simp; done) | (go_simp; with_reducible rfl)
  try simp only [Act.put, List.setIfInBounds_toArray, List.set_cons_zero, List.set_cons_succ]
  refine wpAnyH_take (i := 3) (v := ?_) (by simp only [List.getElem?_toArray, List.getElem?_cons_succ, List.getElem?_cons_zero]; rfl) (by kernel_rfl) (by kernel_rfl) (by kernel_rfl) (fun _ _ _ h => h) (Or.inl ⟨by rfl, ?_⟩) hHeld ?_
  rotate_left
  · intro x hSw; (try dsimp only at hSw); obtain ⟨_, hd13, hd14, hd15⟩ := hSw; have c0d13 := hd13.c0; have c1d13 := hd13.c1; have c0d14 := hd14.c0; have c1d14 := hd14.c1; have c0d15 := hd15.c0; have c1d15 := hd15.c1; first | (go_simp; done) | (go_simp; with_reducible rfl)
  try simp only [Act.put, List.setIfInBounds_toArray, List.set_cons_zero, List.set_cons_succ]
  refine wpAnyH_take (i := 4) (v := ?_) (by simp only [List.getElem?_toArray, List.getElem?_cons_succ, List.getElem?_cons_zero]; rfl) (by kernel_rfl) (by kernel_rfl) (by kernel_rfl) (fun _ _ _ h => h) (Or.inl ⟨by rfl, ?_⟩) hHeld ?_
  rotate_left
  · intro x hSw; (try dsimp only at hSw); obtain ⟨_, hd13, hd14, hd15⟩ := hSw; have c0d13 := hd13.c0; have c1d13 := hd13.c1; have c0d14 := hd14.c0; have c1d14 := hd14.c1; have c0d15 := hd15.c0; have c1d15 := hd15.c1; first | (go_simp; done) | (go_simp; with_reducible rfl)
  try simp only [Act.put, List.setIfInBounds_toArray, List.set_cons_zero, List.set_cons_succ]
  refine wpAnyH_take (i := 6) (v := ?_) (by simp only [List.getElem?_toArray, List.getElem?_cons_succ, List.getElem?_cons_zero]; rfl) (by kernel_rfl) (by kernel_rfl) (by kernel_rfl) (fun _ _ _ h => h) (Or.inl ⟨by rfl, ?_⟩) hHeld ?_
  rotate_left
  · intro x hSw; (try dsimp only at hSw); obtain ⟨_, hd13, hd14, hd15⟩ := hSw; have c0d13 := hd13.c0; have c1d13 := hd13.c1; have c0d14 := hd14.c0; have c1d14 := hd14.c1; have c0d15 := hd15.c0; have c1d15 := hd15.c1; first | (go_simp; done) | (go_simp; with_reducible rfl)
  try simp only [Act.put, List.setIfInBounds_toArray, List.set_cons_zero, List.set_cons_succ]
  refine wpAnyH_take (i := 7) (v := ?_) (by simp only [List.getElem?_toArray, List.getElem?_cons_succ, List.getElem?_cons_zero]; rfl) (by kernel_rfl) (by kernel_rfl) (by kernel_rfl) (fun _ _ _ h => h) (Or.inl ⟨by rfl, ?_⟩) hHeld ?_
  rotate_left
  · intro x hSw; (try dsimp only at hSw); obtain ⟨_, hd13, hd14, hd15⟩ := hSw; have c0d13 := hd13.c0; have c1d13 := hd13.c1; have c0d14 := hd14.c0; have c1d14 := hd14.c1; have c0d15 := hd15.c0; have c1d15 := hd15.c1; first | (go_simp; done) | (go_simp; with_reducible rfl)
  try simp only [Act.put, List.setIfInBounds_toArray, List.set_cons_zero, List.set_cons_succ]
  refine wpAnyH_ready (rs := [2]) (by kernel_rfl) (by simp) ?_
  refine AllReadyH.cons (by simp only [List.getElem?_toArray, List.getElem?_cons_succ, List.getElem?_cons_zero]; rfl) (fun K hK => ?_) AllReadyH.nil
  try go_simp
  refine (hC1.out _).mono ?_; rintro e wq1 ⟨rfl, q1⟩
  replace kB := kB.trans (q1.mono kB.size)
  replace kd13 := kd13.below q1
  replace kd14 := kd14.below q1
  replace kd15 := kd15.below q1
  clear q1
  try go_wp2_with fail
  refine hK.out _ _ ?_ (fun hHeld => ?_)
  · exact ⟨kB, kd13, kd14, kd15⟩
  clear hK K
  try simp only [Act.put, List.setIfInBounds_toArray, List.set_cons_zero, List.set_cons_succ]
  refine wpAnyH_ready (rs := [5]) (by kernel_rfl) (by simp) ?_
  refine AllReadyH.cons (by simp only [List.getElem?_toArray, List.getElem?_cons_succ, List.getElem?_cons_zero]; rfl) (fun K hK => ?_) AllReadyH.nil
  try go_simp
  refine (hC2.out _).mono ?_; rintro e wq2 ⟨rfl, q2⟩
  replace kB := kB.trans (q2.mono kB.size)
  replace kd13 := kd13.below q2
  replace kd14 := kd14.below q2
  replace kd15 := kd15.below q2
  clear q2
  try go_wp2_with fail
  refine hK.out _ _ ?_ (fun hHeld => ?_)
  · exact ⟨kB, kd13, kd14, kd15⟩
  clear hK K
  try simp only [Act.put, List.setIfInBounds_toArray, List.set_cons_zero, List.set_cons_succ]
  refine wpAnyH_ready (rs := [8]) (by kernel_rfl) (by simp) ?_
  refine AllReadyH.cons (by simp only [List.getElem?_toArray, List.getElem?_cons_succ, List.getElem?_cons_zero]; rfl) (fun K hK => ?_) AllReadyH.nil
  try go_simp
  refine (hC3.out _).mono ?_; rintro e wq3 ⟨rfl, q3⟩
  replace kB := kB.trans (q3.mono kB.size)
  replace kd13 := kd13.below q3
  replace kd14 := kd14.below q3
  replace kd15 := kd15.below q3
  clear q3
  try go_wp2_with fail
  refine hK.out _ _ ?_ (fun hHeld => ?_)
  · exact ⟨kB, kd13, kd14, kd15⟩
  clear hK K
  try simp only [Act.put, List.setIfInBounds_toArray, List.set_cons_zero, List.set_cons_succ]
  refine wpAnyH_take (i := 9) (v := ?_) (by simp only [List.getElem?_toArray, List.getElem?_cons_succ, List.getElem?_cons_zero]; rfl) (by kernel_rfl) (by kernel_rfl) (by kernel_rfl) (fun _ _ _ h => h) (Or.inl ⟨by rfl, ?_⟩) hHeld ?_
  rotate_left
  · intro x hSw; first | (go_simp; done) | (go_simp; with_reducible rfl)
  try simp only [Act.put, List.setIfInBounds_toArray, List.set_cons_zero, List.set_cons_succ]
  refine wpAnyH_take (i := 10) (v := ?_) (by simp only [List.getElem?_toArray, List.getElem?_cons_succ, List.getElem?_cons_zero]; rfl) (by kernel_rfl) (by kernel_rfl) (by kernel_rfl) (fun _ _ _ h => h) (Or.inl ⟨by rfl, ?_⟩) hHeld ?_
  rotate_left
  · intro x hSw; first | (go_simp; done) | (go_simp; with_reducible rfl)
  try simp only [Act.put, List.setIfInBounds_toArray, List.set_cons_zero, List.set_cons_succ]
  refine wpAnyH_take (i := 11) (v := ?_) (by simp only [List.getElem?_toArray, List.getElem?_cons_succ, List.getElem?_cons_zero]; rfl) (by kernel_rfl) (by kernel_rfl) (by kernel_rfl) (fun _ _ _ h => h) (Or.inl ⟨by rfl, ?_⟩) hHeld ?_
  rotate_left
  · intro x hSw; first | (go_simp; done) | (go_simp; with_reducible rfl)
  try simp only [Act.put, List.setIfInBounds_toArray, List.set_cons_zero, List.set_cons_succ]
  refine wpAnyH_done (by kernel_rfl) ?_ _
  refine NoPanic.normal ?_
  go_upto_region 5 with (fail)
  go_cut [74] (fun s74 wx => s74 = .bool false ∧ Below w.heap.size w wx ∧ DecAt wx z13 p i ∧ DecAt wx z14 q j ∧ DecAt wx z15 r k)
  case first =>
    have hE := fun W => eql_dec p i q j W
    rcases hX.out with rfl | rfl | rfl
    · have hE2 := hXE.out
      rw [show decide ((-1 : Int) = 0) = false from rfl] at hE2
      rw [← hE2] at hE
      clear hE2
      by_cases hy0 : yo ≤ 0
      · have hz0 := hXYZ.out (by decide) hy0
        have hzb : decide (0 < zo) = false := decide_eq_false (by omega)
        have c0d13 := kd13.c0; have c1d13 := kd13.c1; have c0d14 := kd14.c0; have c1d14 := kd14.c1
        go_wp2_with fail
        clear c0d13 c1d13 c0d14 c1d14
        refine (hC4.out _).mono ?_; rintro e w1 ⟨rfl, b1⟩
        replace kB := kB.trans (b1.mono kB.size)
        replace kd13 := kd13.below b1
        replace kd14 := kd14.below b1
        replace kd15 := kd15.below b1
        clear b1
        have c0d13 := kd13.c0; have c1d13 := kd13.c1; have c0d14 := kd14.c0; have c1d14 := kd14.c1
        go_wp2_with fail
        clear c0d13 c1d13 c0d14 c1d14
        go_meet
        exact ⟨by first | rfl | (rw [hzb]), kB, kd13, kd14, kd15⟩
      · have hy1 : 0 < yo := by omega
        have c0d13 := kd13.c0; have c1d13 := kd13.c1; have c0d14 := kd14.c0; have c1d14 := kd14.c1
        go_wp2_with fail
        clear c0d13 c1d13 c0d14 c1d14
        refine (hC4.out _).mono ?_; rintro e w1 ⟨rfl, b1⟩
        replace kB := kB.trans (b1.mono kB.size)
        replace kd13 := kd13.below b1
        replace kd14 := kd14.below b1
        replace kd15 := kd15.below b1
        clear b1
        have c0d13 := kd13.c0; have c1d13 := kd13.c1; have c0d14 := kd14.c0; have c1d14 := kd14.c1
        go_wp2_with fail
        clear c0d13 c1d13 c0d14 c1d14
        go_meet
        exact ⟨by first | rfl | (rw [hzb]), kB, kd13, kd14, kd15⟩
    · have hE2 := hXE.out
      rw [show decide ((0 : Int) = 0) = true from rfl] at hE2
      rw [← hE2] at hE
      clear hE2
      by_cases hy0 : yo ≤ 0
      · have hz0 := hXYZ.out (by decide) hy0
        have hzb : decide (0 < zo) = false := decide_eq_false (by omega)
        have c0d13 := kd13.c0; have c1d13 := kd13.c1; have c0d14 := kd14.c0; have c1d14 := kd14.c1
        go_wp2_with fail
        clear c0d13 c1d13 c0d14 c1d14
        refine (hC4.out _).mono ?_; rintro e w1 ⟨rfl, b1⟩
        replace kB := kB.trans (b1.mono kB.size)
        replace kd13 := kd13.below b1
        replace kd14 := kd14.below b1
        replace kd15 := kd15.below b1
        clear b1
        have c0d13 := kd13.c0; have c1d13 := kd13.c1; have c0d14 := kd14.c0; have c1d14 := kd14.c1
        go_wp2_with fail
        clear c0d13 c1d13 c0d14 c1d14
        go_meet
        exact ⟨by first | rfl | (rw [hzb]), kB, kd13, kd14, kd15⟩
      · have hy1 : 0 < yo := by omega
        have c0d13 := kd13.c0; have c1d13 := kd13.c1; have c0d14 := kd14.c0; have c1d14 := kd14.c1
        go_wp2_with fail
        clear c0d13 c1d13 c0d14 c1d14
        refine (hC4.out _).mono ?_; rintro e w1 ⟨rfl, b1⟩
        replace kB := kB.trans (b1.mono kB.size)
        replace kd13 := kd13.below b1
        replace kd14 := kd14.below b1
        replace kd15 := kd15.below b1
        clear b1
        have c0d13 := kd13.c0; have c1d13 := kd13.c1; have c0d14 := kd14.c0; have c1d14 := kd14.c1
        go_wp2_with fail
        clear c0d13 c1d13 c0d14 c1d14
        go_meet
        exact ⟨by first | rfl | (rw [hzb]), kB, kd13, kd14, kd15⟩
    · have hE2 := hXE.out
      rw [show decide ((1 : Int) = 0) = false from rfl] at hE2
      rw [← hE2] at hE
      clear hE2
      have c0d13 := kd13.c0; have c1d13 := kd13.c1; have c0d14 := kd14.c0; have c1d14 := kd14.c1
      go_wp2_with fail
      clear c0d13 c1d13 c0d14 c1d14
      refine (hC4.out _).mono ?_; rintro e w1 ⟨rfl, b1⟩
      replace kB := kB.trans (b1.mono kB.size)
      replace kd13 := kd13.below b1
      replace kd14 := kd14.below b1
      replace kd15 := kd15.below b1
      clear b1
      have c0d13 := kd13.c0; have c1d13 := kd13.c1; have c0d14 := kd14.c0; have c1d14 := kd14.c1
      go_wp2_with fail
      clear c0d13 c1d13 c0d14 c1d14
      go_meet
      exact ⟨by first | rfl | (rw [hzb]), kB, kd13, kd14, kd15⟩
  case rest =>
    clear kB kd13 kd14 kd15
    obtain ⟨rfl, kB, kd13, kd14, kd15⟩ := hcut
    cases hd : decI (zv p i - zv q j) with
    | none =>
      have hA2 := Lib.hid (fun W v hv => add2_calls gp gq.neg v W hv)
      rw [zv_negate, ← Int.sub_eq_add_neg, hd, show normV none = Value.tuple #[dv2 0 0, .bool false] from rfl] at hA2
      clear hd
      go_upto_region 7 with (fail)
      go_cut [19, 20] (fun s1 s2 wx => ∃ z19, s1 = .pointer (some ⟨z19, 0, none⟩) ∧ s2 = .bool false ∧ Below w.heap.size w wx ∧ DecAt wx z13 p i ∧ DecAt wx z14 q j ∧ DecAt wx z15 r k ∧ DecAt wx z19 0 0)
      case first =>
        refine wp_region_noPanic ?_
        refine wp_region_held_drew (S := fun X => Below w.heap.size w X ∧ DecAt X z13 p i ∧ DecAt X z14 q j) (by kernel_rfl) ?_ (fun hHeld => ?_)
        · exact ⟨Below.drew kB, DecAt.drew kd13, DecAt.drew kd14⟩
        replace kB := Below.drew kB
        replace kd13 := DecAt.drew kd13
        replace kd14 := DecAt.drew kd14
        replace kd15 := DecAt.drew kd15
        obtain ⟨qw, hcur⟩ : ∃ uu, uu = wc.drew := ⟨_, rfl⟩
        rw [← hcur] at hHeld kB kd13 kd14 kd15 ⊢
        clear hcur
        refine wpAnyH_take (i := 0) (v := ?_) (by simp only [List.getElem?_toArray, List.getElem?_cons_succ, List.getElem?_cons_zero]; rfl) (by kernel_rfl) (by kernel_rfl) (by kernel_rfl) (fun _ _ _ h => h) (Or.inl ⟨by rfl, ?_⟩) hHeld ?_
        rotate_left
        · intro x hSw; (try dsimp only at hSw); obtain ⟨_, hd13, hd14⟩ := hSw; have c0d13 := hd13.c0; have c1d13 := hd13.c1; have c0d14 := hd14.c0; have c1d14 := hd14.c1; first | (go_simp; done) | (go_simp; with_reducible rfl)
        try simp only [Act.put, List.setIfInBounds_toArray, List.set_cons_zero, List.set_cons_succ]
        refine wpAnyH_take (i := 1) (v := ?_) (by simp only [List.getElem?_toArray, List.getElem?_cons_succ, List.getElem?_cons_zero]; rfl) (by kernel_rfl) (by kernel_rfl) (by kernel_rfl) (fun _ _ _ h => h) (Or.inl ⟨by rfl, ?_⟩) hHeld ?_
        rotate_left
        · intro x hSw; (try dsimp only at hSw); obtain ⟨_, hd13, hd14⟩ := hSw; have c0d13 := hd13.c0; have c1d13 := hd13.c1; have c0d14 := hd14.c0; have c1d14 := hd14.c1; first | (go_simp; done) | (go_simp; with_reducible rfl)
        try simp only [Act.put, List.setIfInBounds_toArray, List.set_cons_zero, List.set_cons_succ]
        refine wpAnyH_ready (rs := [2, 8]) (by kernel_rfl) (by simp) ?_
        refine AllReadyH.cons (by simp only [List.getElem?_toArray, List.getElem?_cons_succ, List.getElem?_cons_zero]; rfl) (fun K hK => ?_) ?_
        · try go_simp
          refine (hN1.out _).mono ?_; rintro e wq1 ⟨rfl, q1⟩
          replace kB := kB.trans (q1.mono kB.size)
          replace kd13 := kd13.below q1
          replace kd14 := kd14.below q1
          replace kd15 := kd15.below q1
          clear q1
          try go_wp2_with fail
          refine hK.out _ _ ?_ (fun hHeld => ?_)
          · exact ⟨kB, kd13, kd14⟩
          clear hK K
          try simp only [Act.put, List.setIfInBounds_toArray, List.set_cons_zero, List.set_cons_succ]
          refine wpAnyH_ready (rs := [3, 8]) (by kernel_rfl) (by simp) ?_
          refine AllReadyH.cons (by simp only [List.getElem?_toArray, List.getElem?_cons_succ, List.getElem?_cons_zero]; rfl) (fun K hK => ?_) ?_
          · go_simp
            have kw79 := row2 wq1 p i (-q) j
            have hge_bs := kB.size
            have hne_bs_d13 := kd13.lt
            have hne_bs_d14 := kd14.lt
            have hne_bs_d15 := kd15.lt
            replace kd13 := kd13.alloc (.cells #[.int .i64 p, .int .i64 i, .int .i64 (-q), .int .i64 j] 25)
            replace kd14 := kd14.alloc (.cells #[.int .i64 p, .int .i64 i, .int .i64 (-q), .int .i64 j] 25)
            replace kd15 := kd15.alloc (.cells #[.int .i64 p, .int .i64 i, .int .i64 (-q), .int .i64 j] 25)
            replace kB := kb_alloc kB (Nat.le_refl _) (.cells #[.int .i64 p, .int .i64 i, .int .i64 (-q), .int .i64 j] 25)
            obtain ⟨bs, hcur⟩ : ∃ uu, uu = wq1.heap.size := ⟨_, rfl⟩
            rw [← hcur] at hge_bs kw79 hne_bs_d13 hne_bs_d14 hne_bs_d15 ⊢
            clear hcur
            obtain ⟨q2, hcur⟩ : ∃ uu, uu = wq1.alloc (.cells #[.int .i64 p, .int .i64 i, .int .i64 (-q), .int .i64 j] 25) := ⟨_, rfl⟩
            rw [← hcur] at kB kd13 kd14 kd15 kw79 ⊢
            clear hcur
            refine hK.out _ _ ?_ (fun hHeld => ?_)
            · exact ⟨kB, kd13, kd14⟩
            clear hK K
            try simp only [Act.put, List.setIfInBounds_toArray, List.set_cons_zero, List.set_cons_succ]
            refine wpAnyH_ready (rs := [4, 8]) (by kernel_rfl) (by simp) ?_
            refine AllReadyH.cons (by simp only [List.getElem?_toArray, List.getElem?_cons_succ, List.getElem?_cons_zero]; rfl) (fun K hK => ?_) ?_
            · try go_simp
              refine (hA2.out _ _ kw79).mono ?_; rintro e wq3 ⟨rfl, q3⟩
              replace kB := kB.trans (q3.mono kB.size)
              replace kd13 := kd13.below q3
              replace kd14 := kd14.below q3
              replace kd15 := kd15.below q3
              replace kw79 := kw79.below q3
              clear q3
              try go_wp2_with fail
              refine hK.out _ _ ?_ (fun hHeld => ?_)
              · exact ⟨kB, kd13, kd14⟩
              clear hK K
              try simp only [Act.put, List.setIfInBounds_toArray, List.set_cons_zero, List.set_cons_succ]
              refine wpAnyH_take (i := 5) (v := ?_) (by simp only [List.getElem?_toArray, List.getElem?_cons_succ, List.getElem?_cons_zero]; rfl) (by kernel_rfl) (by kernel_rfl) (by kernel_rfl) (fun _ _ _ h => h) (Or.inl ⟨by rfl, ?_⟩) hHeld ?_
              rotate_left
              · intro x hSw; first | (go_simp; done) | (go_simp; with_reducible rfl)
              try simp only [Act.put, List.setIfInBounds_toArray, List.set_cons_zero, List.set_cons_succ]
              refine wpAnyH_take (i := 6) (v := ?_) (by simp only [List.getElem?_toArray, List.getElem?_cons_succ, List.getElem?_cons_zero]; rfl) (by kernel_rfl) (by kernel_rfl) (by kernel_rfl) (fun _ _ _ h => h) (Or.inl ⟨by rfl, ?_⟩) hHeld ?_
              rotate_left
              · intro x hSw; first | (go_simp; done) | (go_simp; with_reducible rfl)
              try simp only [Act.put, List.setIfInBounds_toArray, List.set_cons_zero, List.set_cons_succ]
              refine wpAnyH_take (i := 7) (v := ?_) (by simp only [List.getElem?_toArray, List.getElem?_cons_succ, List.getElem?_cons_zero]; rfl) (by kernel_rfl) (by kernel_rfl) (by kernel_rfl) (fun _ _ _ h => h) (Or.inl ⟨by rfl, ?_⟩) hHeld ?_
              rotate_left
              · intro x hSw; first | (go_simp; done) | (go_simp; with_reducible rfl)
              try simp only [Act.put, List.setIfInBounds_toArray, List.set_cons_zero, List.set_cons_succ]
              refine wpAnyH_ready (rs := [8]) (by kernel_rfl) (by simp) ?_
              refine AllReadyH.cons (by simp only [List.getElem?_toArray, List.getElem?_cons_succ, List.getElem?_cons_zero]; rfl) (fun K hK => ?_) AllReadyH.nil
              go_simp
              have kd19 := DecAt.new wq3 0 0
              have hge_z19 := kB.size
              have hne_z19_d13 := kd13.lt
              have hne_z19_d14 := kd14.lt
              have hne_z19_d15 := kd15.lt
              replace kd13 := kd13.alloc (.cells #[.int .i64 0, .int .i64 0] 25)
              replace kd14 := kd14.alloc (.cells #[.int .i64 0, .int .i64 0] 25)
              replace kd15 := kd15.alloc (.cells #[.int .i64 0, .int .i64 0] 25)
              replace kw79 := kw79.alloc (.cells #[.int .i64 0, .int .i64 0] 25)
              replace kB := kb_alloc kB (Nat.le_refl _) (.cells #[.int .i64 0, .int .i64 0] 25)
              obtain ⟨z19, hcur⟩ : ∃ uu, uu = wq3.heap.size := ⟨_, rfl⟩
              rw [← hcur] at hge_z19 kd19 hne_z19_d13 hne_z19_d14 hne_z19_d15 ⊢
              clear hcur
              obtain ⟨q4, hcur⟩ : ∃ uu, uu = wq3.alloc (.cells #[.int .i64 0, .int .i64 0] 25) := ⟨_, rfl⟩
              rw [← hcur] at kB kd13 kd14 kd15 kw79 kd19 ⊢
              clear hcur
              refine hK.out _ _ ?_ (fun hHeld => ?_)
              · exact ⟨kB, kd13, kd14⟩
              clear hK K
              try simp only [Act.put, List.setIfInBounds_toArray, List.set_cons_zero, List.set_cons_succ]
              refine wpAnyH_ready (rs := [9]) (by kernel_rfl) (by simp) ?_
              refine AllReadyH.cons (by simp only [List.getElem?_toArray, List.getElem?_cons_succ, List.getElem?_cons_zero]; rfl) (fun K hK => ?_) AllReadyH.nil
              have sc0 := kd19.c0; have sc1 := kd19.c1; have sf0 := kd19.f0; have sf1 := kd19.f1
              go_simp
              clear sc0 sc1 sf0 sf1
              replace kB := below_put (g := z19) kB (by omega) (0) (0)
              replace kd13 := kd13.putOther (g := z19) (by omega) (0) (0)
              replace kd14 := kd14.putOther (g := z19) (by omega) (0) (0)
              replace kd15 := kd15.putOther (g := z19) (by omega) (0) (0)
              replace kd19 := kd19.put (0) (0)
              clear kw79
              unfold putDec at kB kd13 kd14 kd15 kd19
              refine hK.out _ _ ?_ (fun hHeld => ?_)
              · exact ⟨kB, kd13, kd14⟩
              clear hK K
              try simp only [Act.put, List.setIfInBounds_toArray, List.set_cons_zero, List.set_cons_succ]
              refine wpAnyH_take (i := 10) (v := ?_) (by simp only [List.getElem?_toArray, List.getElem?_cons_succ, List.getElem?_cons_zero]; rfl) (by kernel_rfl) (by kernel_rfl) (by kernel_rfl) (fun _ _ _ h => h) (Or.inl ⟨by rfl, ?_⟩) hHeld ?_
              rotate_left
              · intro x hSw; first | (go_simp; done) | (go_simp; with_reducible rfl)
              try simp only [Act.put, List.setIfInBounds_toArray, List.set_cons_zero, List.set_cons_succ]
              refine wpAnyH_done (by kernel_rfl) ?_ _
              refine NoPanic.normal ?_
              go_wp2_with fail
              go_meet
              exact ⟨z19, rfl, rfl, kB, kd13, kd14, kd15, kd19⟩
            refine AllReadyH.cons (by simp only [List.getElem?_toArray, List.getElem?_cons_succ, List.getElem?_cons_zero]; rfl) (fun K hK => ?_) AllReadyH.nil
            go_simp
            have kd19 := DecAt.new q2 0 0
            have hge_z19 := kB.size
            have hne_z19_d13 := kd13.lt
            have hne_z19_d14 := kd14.lt
            have hne_z19_d15 := kd15.lt
            replace kd13 := kd13.alloc (.cells #[.int .i64 0, .int .i64 0] 25)
            replace kd14 := kd14.alloc (.cells #[.int .i64 0, .int .i64 0] 25)
            replace kd15 := kd15.alloc (.cells #[.int .i64 0, .int .i64 0] 25)
            replace kw79 := kw79.alloc (.cells #[.int .i64 0, .int .i64 0] 25)
            replace kB := kb_alloc kB (Nat.le_refl _) (.cells #[.int .i64 0, .int .i64 0] 25)
            obtain ⟨z19, hcur⟩ : ∃ uu, uu = q2.heap.size := ⟨_, rfl⟩
            rw [← hcur] at hge_z19 kd19 hne_z19_d13 hne_z19_d14 hne_z19_d15 ⊢
            clear hcur
            obtain ⟨q5, hcur⟩ : ∃ uu, uu = q2.alloc (.cells #[.int .i64 0, .int .i64 0] 25) := ⟨_, rfl⟩
            rw [← hcur] at kB kd13 kd14 kd15 kw79 kd19 ⊢
            clear hcur
            refine hK.out _ _ ?_ (fun hHeld => ?_)
            · exact ⟨kB, kd13, kd14⟩
            clear hK K
            try simp only [Act.put, List.setIfInBounds_toArray, List.set_cons_zero, List.set_cons_succ]
            refine wpAnyH_ready (rs := [4]) (by kernel_rfl) (by simp) ?_
            refine AllReadyH.cons (by simp only [List.getElem?_toArray, List.getElem?_cons_succ, List.getElem?_cons_zero]; rfl) (fun K hK => ?_) AllReadyH.nil
            try go_simp
            refine (hA2.out _ _ kw79).mono ?_; rintro e wq6 ⟨rfl, q6⟩
            replace kB := kB.trans (q6.mono kB.size)
            replace kd13 := kd13.below q6
            replace kd14 := kd14.below q6
            replace kd15 := kd15.below q6
            replace kd19 := kd19.below q6
            replace kw79 := kw79.below q6
            clear q6
            try go_wp2_with fail
            refine hK.out _ _ ?_ (fun hHeld => ?_)
            · exact ⟨kB, kd13, kd14⟩
            clear hK K
            try simp only [Act.put, List.setIfInBounds_toArray, List.set_cons_zero, List.set_cons_succ]
            refine wpAnyH_take (i := 5) (v := ?_) (by simp only [List.getElem?_toArray, List.getElem?_cons_succ, List.getElem?_cons_zero]; rfl) (by kernel_rfl) (by kernel_rfl) (by kernel_rfl) (fun _ _ _ h => h) (Or.inl ⟨by rfl, ?_⟩) hHeld ?_
            rotate_left
            · intro x hSw; first | (go_simp; done) | (go_simp; with_reducible rfl)
            try simp only [Act.put, List.setIfInBounds_toArray, List.set_cons_zero, List.set_cons_succ]
            refine wpAnyH_take (i := 6) (v := ?_) (by simp only [List.getElem?_toArray, List.getElem?_cons_succ, List.getElem?_cons_zero]; rfl) (by kernel_rfl) (by kernel_rfl) (by kernel_rfl) (fun _ _ _ h => h) (Or.inl ⟨by rfl, ?_⟩) hHeld ?_
            rotate_left
            · intro x hSw; first | (go_simp; done) | (go_simp; with_reducible rfl)
            try simp only [Act.put, List.setIfInBounds_toArray, List.set_cons_zero, List.set_cons_succ]
            refine wpAnyH_take (i := 7) (v := ?_) (by simp only [List.getElem?_toArray, List.getElem?_cons_succ, List.getElem?_cons_zero]; rfl) (by kernel_rfl) (by kernel_rfl) (by kernel_rfl) (fun _ _ _ h => h) (Or.inl ⟨by rfl, ?_⟩) hHeld ?_
            rotate_left
            · intro x hSw; first | (go_simp; done) | (go_simp; with_reducible rfl)
            try simp only [Act.put, List.setIfInBounds_toArray, List.set_cons_zero, List.set_cons_succ]
            refine wpAnyH_ready (rs := [9]) (by kernel_rfl) (by simp) ?_
            refine AllReadyH.cons (by simp only [List.getElem?_toArray, List.getElem?_cons_succ, List.getElem?_cons_zero]; rfl) (fun K hK => ?_) AllReadyH.nil
            have sc0 := kd19.c0; have sc1 := kd19.c1; have sf0 := kd19.f0; have sf1 := kd19.f1
            go_simp
            clear sc0 sc1 sf0 sf1
            replace kB := below_put (g := z19) kB (by omega) (0) (0)
            replace kd13 := kd13.putOther (g := z19) (by omega) (0) (0)
            replace kd14 := kd14.putOther (g := z19) (by omega) (0) (0)
            replace kd15 := kd15.putOther (g := z19) (by omega) (0) (0)
            replace kd19 := kd19.put (0) (0)
            clear kw79
            unfold putDec at kB kd13 kd14 kd15 kd19
            refine hK.out _ _ ?_ (fun hHeld => ?_)
            · exact ⟨kB, kd13, kd14⟩
            clear hK K
            try simp only [Act.put, List.setIfInBounds_toArray, List.set_cons_zero, List.set_cons_succ]
            refine wpAnyH_take (i := 10) (v := ?_) (by simp only [List.getElem?_toArray, List.getElem?_cons_succ, List.getElem?_cons_zero]; rfl) (by kernel_rfl) (by kernel_rfl) (by kernel_rfl) (fun _ _ _ h => h) (Or.inl ⟨by rfl, ?_⟩) hHeld ?_
            rotate_left
            · intro x hSw; first | (go_simp; done) | (go_simp; with_reducible rfl)
            try simp only [Act.put, List.setIfInBounds_toArray, List.set_cons_zero, List.set_cons_succ]
            refine wpAnyH_done (by kernel_rfl) ?_ _
            refine NoPanic.normal ?_
            go_wp2_with fail
            go_meet
            exact ⟨z19, rfl, rfl, kB, kd13, kd14, kd15, kd19⟩
          refine AllReadyH.cons (by simp only [List.getElem?_toArray, List.getElem?_cons_succ, List.getElem?_cons_zero]; rfl) (fun K hK => ?_) AllReadyH.nil
          go_simp
          have kd19 := DecAt.new wq1 0 0
          have hge_z19 := kB.size
          have hne_z19_d13 := kd13.lt
          have hne_z19_d14 := kd14.lt
          have hne_z19_d15 := kd15.lt
          replace kd13 := kd13.alloc (.cells #[.int .i64 0, .int .i64 0] 25)
          replace kd14 := kd14.alloc (.cells #[.int .i64 0, .int .i64 0] 25)
          replace kd15 := kd15.alloc (.cells #[.int .i64 0, .int .i64 0] 25)
          replace kB := kb_alloc kB (Nat.le_refl _) (.cells #[.int .i64 0, .int .i64 0] 25)
          obtain ⟨z19, hcur⟩ : ∃ uu, uu = wq1.heap.size := ⟨_, rfl⟩
          rw [← hcur] at hge_z19 kd19 hne_z19_d13 hne_z19_d14 hne_z19_d15 ⊢
          clear hcur
          obtain ⟨q7, hcur⟩ : ∃ uu, uu = wq1.alloc (.cells #[.int .i64 0, .int .i64 0] 25) := ⟨_, rfl⟩
          rw [← hcur] at kB kd13 kd14 kd15 kd19 ⊢
          clear hcur
          refine hK.out _ _ ?_ (fun hHeld => ?_)
          · exact ⟨kB, kd13, kd14⟩
          clear hK K
          try simp only [Act.put, List.setIfInBounds_toArray, List.set_cons_zero, List.set_cons_succ]
          refine wpAnyH_ready (rs := [3]) (by kernel_rfl) (by simp) ?_
          refine AllReadyH.cons (by simp only [List.getElem?_toArray, List.getElem?_cons_succ, List.getElem?_cons_zero]; rfl) (fun K hK => ?_) AllReadyH.nil
          go_simp
          have kw79 := row2 q7 p i (-q) j
          have hge_bs := kB.size
          have hne_bs_d13 := kd13.lt
          have hne_bs_d14 := kd14.lt
          have hne_bs_d15 := kd15.lt
          have hne_bs_d19 := kd19.lt
          replace kd13 := kd13.alloc (.cells #[.int .i64 p, .int .i64 i, .int .i64 (-q), .int .i64 j] 25)
          replace kd14 := kd14.alloc (.cells #[.int .i64 p, .int .i64 i, .int .i64 (-q), .int .i64 j] 25)
          replace kd15 := kd15.alloc (.cells #[.int .i64 p, .int .i64 i, .int .i64 (-q), .int .i64 j] 25)
          replace kd19 := kd19.alloc (.cells #[.int .i64 p, .int .i64 i, .int .i64 (-q), .int .i64 j] 25)
          replace kB := kb_alloc kB (Nat.le_refl _) (.cells #[.int .i64 p, .int .i64 i, .int .i64 (-q), .int .i64 j] 25)
          obtain ⟨bs, hcur⟩ : ∃ uu, uu = q7.heap.size := ⟨_, rfl⟩
          rw [← hcur] at hge_bs kw79 hne_bs_d13 hne_bs_d14 hne_bs_d15 hne_bs_d19 ⊢
          clear hcur
          obtain ⟨q8, hcur⟩ : ∃ uu, uu = q7.alloc (.cells #[.int .i64 p, .int .i64 i, .int .i64 (-q), .int .i64 j] 25) := ⟨_, rfl⟩
          rw [← hcur] at kB kd13 kd14 kd15 kd19 kw79 ⊢
          clear hcur
          refine hK.out _ _ ?_ (fun hHeld => ?_)
          · exact ⟨kB, kd13, kd14⟩
          clear hK K
          try simp only [Act.put, List.setIfInBounds_toArray, List.set_cons_zero, List.set_cons_succ]
          refine wpAnyH_ready (rs := [4]) (by kernel_rfl) (by simp) ?_
          refine AllReadyH.cons (by simp only [List.getElem?_toArray, List.getElem?_cons_succ, List.getElem?_cons_zero]; rfl) (fun K hK => ?_) AllReadyH.nil
          try go_simp
          refine (hA2.out _ _ kw79).mono ?_; rintro e wq9 ⟨rfl, q9⟩
          replace kB := kB.trans (q9.mono kB.size)
          replace kd13 := kd13.below q9
          replace kd14 := kd14.below q9
          replace kd15 := kd15.below q9
          replace kd19 := kd19.below q9
          replace kw79 := kw79.below q9
          clear q9
          try go_wp2_with fail
          refine hK.out _ _ ?_ (fun hHeld => ?_)
          · exact ⟨kB, kd13, kd14⟩
          clear hK K
          try simp only [Act.put, List.setIfInBounds_toArray, List.set_cons_zero, List.set_cons_succ]
          refine wpAnyH_take (i := 5) (v := ?_) (by simp only [List.getElem?_toArray, List.getElem?_cons_succ, List.getElem?_cons_zero]; rfl) (by kernel_rfl) (by kernel_rfl) (by kernel_rfl) (fun _ _ _ h => h) (Or.inl ⟨by rfl, ?_⟩) hHeld ?_
          rotate_left
          · intro x hSw; first | (go_simp; done) | (go_simp; with_reducible rfl)
          try simp only [Act.put, List.setIfInBounds_toArray, List.set_cons_zero, List.set_cons_succ]
          refine wpAnyH_take (i := 6) (v := ?_) (by simp only [List.getElem?_toArray, List.getElem?_cons_succ, List.getElem?_cons_zero]; rfl) (by kernel_rfl) (by kernel_rfl) (by kernel_rfl) (fun _ _ _ h => h) (Or.inl ⟨by rfl, ?_⟩) hHeld ?_
          rotate_left
          · intro x hSw; first | (go_simp; done) | (go_simp; with_reducible rfl)
          try simp only [Act.put, List.setIfInBounds_toArray, List.set_cons_zero, List.set_cons_succ]
          refine wpAnyH_take (i := 7) (v := ?_) (by simp only [List.getElem?_toArray, List.getElem?_cons_succ, List.getElem?_cons_zero]; rfl) (by kernel_rfl) (by kernel_rfl) (by kernel_rfl) (fun _ _ _ h => h) (Or.inl ⟨by rfl, ?_⟩) hHeld ?_
          rotate_left
          · intro x hSw; first | (go_simp; done) | (go_simp; with_reducible rfl)
          try simp only [Act.put, List.setIfInBounds_toArray, List.set_cons_zero, List.set_cons_succ]
          refine wpAnyH_ready (rs := [9]) (by kernel_rfl) (by simp) ?_
          refine AllReadyH.cons (by simp only [List.getElem?_toArray, List.getElem?_cons_succ, List.getElem?_cons_zero]; rfl) (fun K hK => ?_) AllReadyH.nil
          have sc0 := kd19.c0; have sc1 := kd19.c1; have sf0 := kd19.f0; have sf1 := kd19.f1
          go_simp
          clear sc0 sc1 sf0 sf1
          replace kB := below_put (g := z19) kB (by omega) (0) (0)
          replace kd13 := kd13.putOther (g := z19) (by omega) (0) (0)
          replace kd14 := kd14.putOther (g := z19) (by omega) (0) (0)
          replace kd15 := kd15.putOther (g := z19) (by omega) (0) (0)
          replace kd19 := kd19.put (0) (0)
          clear kw79
          unfold putDec at kB kd13 kd14 kd15 kd19
          refine hK.out _ _ ?_ (fun hHeld => ?_)
          · exact ⟨kB, kd13, kd14⟩
          clear hK K
          try simp only [Act.put, List.setIfInBounds_toArray, List.set_cons_zero, List.set_cons_succ]
          refine wpAnyH_take (i := 10) (v := ?_) (by simp only [List.getElem?_toArray, List.getElem?_cons_succ, List.getElem?_cons_zero]; rfl) (by kernel_rfl) (by kernel_rfl) (by kernel_rfl) (fun _ _ _ h => h) (Or.inl ⟨by rfl, ?_⟩) hHeld ?_
          rotate_left
          · intro x hSw; first | (go_simp; done) | (go_simp; with_reducible rfl)
          try simp only [Act.put, List.setIfInBounds_toArray, List.set_cons_zero, List.set_cons_succ]
          refine wpAnyH_done (by kernel_rfl) ?_ _
          refine NoPanic.normal ?_
          go_wp2_with fail
          go_meet
          exact ⟨z19, rfl, rfl, kB, kd13, kd14, kd15, kd19⟩
        refine AllReadyH.cons (by simp only [List.getElem?_toArray, List.getElem?_cons_succ, List.getElem?_cons_zero]; rfl) (fun K hK => ?_) AllReadyH.nil
        go_simp
        have kd19 := DecAt.new qw 0 0
        have hge_z19 := kB.size
        have hne_z19_d13 := kd13.lt
        have hne_z19_d14 := kd14.lt
        have hne_z19_d15 := kd15.lt
        replace kd13 := kd13.alloc (.cells #[.int .i64 0, .int .i64 0] 25)
        replace kd14 := kd14.alloc (.cells #[.int .i64 0, .int .i64 0] 25)
        replace kd15 := kd15.alloc (.cells #[.int .i64 0, .int .i64 0] 25)
        replace kB := kb_alloc kB (Nat.le_refl _) (.cells #[.int .i64 0, .int .i64 0] 25)
        obtain ⟨z19, hcur⟩ : ∃ uu, uu = qw.heap.size := ⟨_, rfl⟩
        rw [← hcur] at hge_z19 kd19 hne_z19_d13 hne_z19_d14 hne_z19_d15 ⊢
        clear hcur
        obtain ⟨q10, hcur⟩ : ∃ uu, uu = qw.alloc (.cells #[.int .i64 0, .int .i64 0] 25) := ⟨_, rfl⟩
        rw [← hcur] at kB kd13 kd14 kd15 kd19 ⊢
        clear hcur
        refine hK.out _ _ ?_ (fun hHeld => ?_)
        · exact ⟨kB, kd13, kd14⟩
        clear hK K
        try simp only [Act.put, List.setIfInBounds_toArray, List.set_cons_zero, List.set_cons_succ]
        refine wpAnyH_ready (rs := [2]) (by kernel_rfl) (by simp) ?_
        refine AllReadyH.cons (by simp only [List.getElem?_toArray, List.getElem?_cons_succ, List.getElem?_cons_zero]; rfl) (fun K hK => ?_) AllReadyH.nil
        try go_simp
        refine (hN1.out _).mono ?_; rintro e wq11 ⟨rfl, q11⟩
        replace kB := kB.trans (q11.mono kB.size)
        replace kd13 := kd13.below q11
        replace kd14 := kd14.below q11
        replace kd15 := kd15.below q11
        replace kd19 := kd19.below q11
        clear q11
        try go_wp2_with fail
        refine hK.out _ _ ?_ (fun hHeld => ?_)
        · exact ⟨kB, kd13, kd14⟩
        clear hK K
        try simp only [Act.put, List.setIfInBounds_toArray, List.set_cons_zero, List.set_cons_succ]
        refine wpAnyH_ready (rs := [3]) (by kernel_rfl) (by simp) ?_
        refine AllReadyH.cons (by simp only [List.getElem?_toArray, List.getElem?_cons_succ, List.getElem?_cons_zero]; rfl) (fun K hK => ?_) AllReadyH.nil
        go_simp
        have kw79 := row2 wq11 p i (-q) j
        have hge_bs := kB.size
        have hne_bs_d13 := kd13.lt
        have hne_bs_d14 := kd14.lt
        have hne_bs_d15 := kd15.lt
        have hne_bs_d19 := kd19.lt
        replace kd13 := kd13.alloc (.cells #[.int .i64 p, .int .i64 i, .int .i64 (-q), .int .i64 j] 25)
        replace kd14 := kd14.alloc (.cells #[.int .i64 p, .int .i64 i, .int .i64 (-q), .int .i64 j] 25)
        replace kd15 := kd15.alloc (.cells #[.int .i64 p, .int .i64 i, .int .i64 (-q), .int .i64 j] 25)
        replace kd19 := kd19.alloc (.cells #[.int .i64 p, .int .i64 i, .int .i64 (-q), .int .i64 j] 25)
        replace kB := kb_alloc kB (Nat.le_refl _) (.cells #[.int .i64 p, .int .i64 i, .int .i64 (-q), .int .i64 j] 25)
        obtain ⟨bs, hcur⟩ : ∃ uu, uu = wq11.heap.size := ⟨_, rfl⟩
        rw [← hcur] at hge_bs kw79 hne_bs_d13 hne_bs_d14 hne_bs_d15 hne_bs_d19 ⊢
        clear hcur
        obtain ⟨q12, hcur⟩ : ∃ uu, uu = wq11.alloc (.cells #[.int .i64 p, .int .i64 i, .int .i64 (-q), .int .i64 j] 25) := ⟨_, rfl⟩
        rw [← hcur] at kB kd13 kd14 kd15 kd19 kw79 ⊢
        clear hcur
        refine hK.out _ _ ?_ (fun hHeld => ?_)
        · exact ⟨kB, kd13, kd14⟩
        clear hK K
        try simp only [Act.put, List.setIfInBounds_toArray, List.set_cons_zero, List.set_cons_succ]
        refine wpAnyH_ready (rs := [4]) (by kernel_rfl) (by simp) ?_
        refine AllReadyH.cons (by simp only [List.getElem?_toArray, List.getElem?_cons_succ, List.getElem?_cons_zero]; rfl) (fun K hK => ?_) AllReadyH.nil
        try go_simp
        refine (hA2.out _ _ kw79).mono ?_; rintro e wq13 ⟨rfl, q13⟩
        replace kB := kB.trans (q13.mono kB.size)
        replace kd13 := kd13.below q13
        replace kd14 := kd14.below q13
        replace kd15 := kd15.below q13
        replace kd19 := kd19.below q13
        replace kw79 := kw79.below q13
        clear q13
        try go_wp2_with fail
        refine hK.out _ _ ?_ (fun hHeld => ?_)
        · exact ⟨kB, kd13, kd14⟩
        clear hK K
        try simp only [Act.put, List.setIfInBounds_toArray, List.set_cons_zero, List.set_cons_succ]
        refine wpAnyH_take (i := 5) (v := ?_) (by simp only [List.getElem?_toArray, List.getElem?_cons_succ, List.getElem?_cons_zero]; rfl) (by kernel_rfl) (by kernel_rfl) (by kernel_rfl) (fun _ _ _ h => h) (Or.inl ⟨by rfl, ?_⟩) hHeld ?_
        rotate_left
        · intro x hSw; first | (go_simp; done) | (go_simp; with_reducible rfl)
        try simp only [Act.put, List.setIfInBounds_toArray, List.set_cons_zero, List.set_cons_succ]
        refine wpAnyH_take (i := 6) (v := ?_) (by simp only [List.getElem?_toArray, List.getElem?_cons_succ, List.getElem?_cons_zero]; rfl) (by kernel_rfl) (by kernel_rfl) (by kernel_rfl) (fun _ _ _ h => h) (Or.inl ⟨by rfl, ?_⟩) hHeld ?_
        rotate_left
        · intro x hSw; first | (go_simp; done) | (go_simp; with_reducible rfl)
        try simp only [Act.put, List.setIfInBounds_toArray, List.set_cons_zero, List.set_cons_succ]
        refine wpAnyH_take (i := 7) (v := ?_) (by simp only [List.getElem?_toArray, List.getElem?_cons_succ, List.getElem?_cons_zero]; rfl) (by kernel_rfl) (by kernel_rfl) (by kernel_rfl) (fun _ _ _ h => h) (Or.inl ⟨by rfl, ?_⟩) hHeld ?_
        rotate_left
        · intro x hSw; first | (go_simp; done) | (go_simp; with_reducible rfl)
        try simp only [Act.put, List.setIfInBounds_toArray, List.set_cons_zero, List.set_cons_succ]
        refine wpAnyH_ready (rs := [9]) (by kernel_rfl) (by simp) ?_
        refine AllReadyH.cons (by simp only [List.getElem?_toArray, List.getElem?_cons_succ, List.getElem?_cons_zero]; rfl) (fun K hK => ?_) AllReadyH.nil
        have sc0 := kd19.c0; have sc1 := kd19.c1; have sf0 := kd19.f0; have sf1 := kd19.f1
        go_simp
        clear sc0 sc1 sf0 sf1
        replace kB := below_put (g := z19) kB (by omega) (0) (0)
        replace kd13 := kd13.putOther (g := z19) (by omega) (0) (0)
        replace kd14 := kd14.putOther (g := z19) (by omega) (0) (0)
        replace kd15 := kd15.putOther (g := z19) (by omega) (0) (0)
        replace kd19 := kd19.put (0) (0)
        clear kw79
        unfold putDec at kB kd13 kd14 kd15 kd19
        refine hK.out _ _ ?_ (fun hHeld => ?_)
        · exact ⟨kB, kd13, kd14⟩
        clear hK K
        try simp only [Act.put, List.setIfInBounds_toArray, List.set_cons_zero, List.set_cons_succ]
        refine wpAnyH_take (i := 10) (v := ?_) (by simp only [List.getElem?_toArray, List.getElem?_cons_succ, List.getElem?_cons_zero]; rfl) (by kernel_rfl) (by kernel_rfl) (by kernel_rfl) (fun _ _ _ h => h) (Or.inl ⟨by rfl, ?_⟩) hHeld ?_
        rotate_left
        · intro x hSw; first | (go_simp; done) | (go_simp; with_reducible rfl)
        try simp only [Act.put, List.setIfInBounds_toArray, List.set_cons_zero, List.set_cons_succ]
        refine wpAnyH_done (by kernel_rfl) ?_ _
        refine NoPanic.normal ?_
        go_wp2_with fail
        go_meet
        exact ⟨z19, rfl, rfl, kB, kd13, kd14, kd15, kd19⟩
      case rest =>
        clear kB kd13 kd14 kd15
        obtain ⟨z19, rfl, rfl, kB, kd13, kd14, kd15, kd19⟩ := hcut
        go_upto_region 10 with (fail)
        have c0d13 := kd13.c0; have c1d13 := kd13.c1; have c0d15 := kd15.c0; have c1d15 := kd15.c1
        go_wp2_with fail
        clear c0d13 c1d13 c0d15 c1d15
        have krow := row2 wc p i r k
        replace kB := kb_alloc kB (Nat.le_refl _) (.cells #[.int .i64 p, .int .i64 i, .int .i64 r, .int .i64 k] 25)
        replace kd13 := kd13.alloc (.cells #[.int .i64 p, .int .i64 i, .int .i64 r, .int .i64 k] 25)
        replace kd14 := kd14.alloc (.cells #[.int .i64 p, .int .i64 i, .int .i64 r, .int .i64 k] 25)
        replace kd15 := kd15.alloc (.cells #[.int .i64 p, .int .i64 i, .int .i64 r, .int .i64 k] 25)
        replace kd19 := kd19.alloc (.cells #[.int .i64 p, .int .i64 i, .int .i64 r, .int .i64 k] 25)
        refine (hA3.out _ _ krow).mono ?_; rintro e w1 ⟨rfl, b1⟩
        replace kB := kB.trans (b1.mono kB.size)
        replace kd13 := kd13.below b1
        replace kd14 := kd14.below b1
        replace kd15 := kd15.below b1
        replace kd19 := kd19.below b1
        clear b1
        clear krow
        cases he : decI (zv p i + zv r k) with
        | none =>
          rw [show normV none = Value.tuple #[dv2 0 0, .bool false] from rfl]
          clear he
          replace kB := kb_alloc kB (Nat.le_refl _) (.cells #[.int .i64 0, .int .i64 0] 25)
          replace kd13 := kd13.alloc (.cells #[.int .i64 0, .int .i64 0] 25)
          replace kd14 := kd14.alloc (.cells #[.int .i64 0, .int .i64 0] 25)
          replace kd15 := kd15.alloc (.cells #[.int .i64 0, .int .i64 0] 25)
          replace kd19 := kd19.alloc (.cells #[.int .i64 0, .int .i64 0] 25)
          have kd21 := DecAt.new w1 0 0
          have c0d15 := kd15.c0; have c1d15 := kd15.c1; have c0d13 := kd13.c0; have c1d13 := kd13.c1
          go_wp2_with fail
          clear c0d15 c1d15 c0d13 c1d13
          go_ret
          exact ⟨rfl, kB⟩
        | some rr2 =>
          obtain ⟨e1, e2⟩ := rr2
          rw [show normV (some (e1, e2)) = Value.tuple #[dv2 e1 (e2 : Int), .bool true] from rfl]
          obtain ⟨ge, hez⟩ := Gd.of_decI he
          clear he
          replace kB := kb_alloc kB (Nat.le_refl _) (.cells #[.int .i64 e1, .int .i64 (e2 : Int)] 25)
          replace kd13 := kd13.alloc (.cells #[.int .i64 e1, .int .i64 (e2 : Int)] 25)
          replace kd14 := kd14.alloc (.cells #[.int .i64 e1, .int .i64 (e2 : Int)] 25)
          replace kd15 := kd15.alloc (.cells #[.int .i64 e1, .int .i64 (e2 : Int)] 25)
          replace kd19 := kd19.alloc (.cells #[.int .i64 e1, .int .i64 (e2 : Int)] 25)
          have kd21 := DecAt.new w1 e1 (e2 : Int)
          go_upto_region 11 with (fail)
          obtain ⟨W2, hcur⟩ : ∃ uu, uu = w1.alloc (.cells #[.int .i64 e1, .int .i64 (e2 : Int)] 25) := ⟨_, rfl⟩
          rw [← hcur] at kB kd13 kd14 kd15 kd19 kd21 ⊢
          clear hcur
          obtain ⟨z21, hcur⟩ : ∃ uu, uu = w1.heap.size := ⟨_, rfl⟩
          rw [← hcur] at kd21 ⊢
          clear hcur
          by_cases hr0 : r < 0
          · clear hez ge
            have c0d15 := kd15.c0; have c1d15 := kd15.c1; have c0d13 := kd13.c0; have c1d13 := kd13.c1
            go_wp2_with fail
            clear c0d15 c1d15 c0d13 c1d13
            go_ret
            exact ⟨rfl, kB⟩
          · obtain ⟨u, hu⟩ : ∃ u, u = ord3 (zv e1 (e2 : Int)) (zv p i) := ⟨_, rfl⟩
            have hu0 : 0 ≤ u := by
              have hrz : ¬ zv r k < 0 := fun e => hr0 ((zv_neg r k).1 e)
              rw [hu, hez]
              rcases ord3_cases (zv p i + zv r k) (zv p i) with ⟨h, e⟩ | ⟨h, e⟩ | ⟨h, e⟩ <;> omega
            have hC6 := Lib.hid (fun W => cmp_of e1 (e2 : Int) p i W u (by rw [cmpO_good ge gp]; exact hu.symm) ge.lo ge.hi gp.lo gp.hi)
            clear hu hez ge
            have c0d15 := kd15.c0; have c1d15 := kd15.c1; have c0d21 := kd21.c0; have c1d21 := kd21.c1; have c0d13 := kd13.c0; have c1d13 := kd13.c1
            go_wp2_with fail
            clear c0d15 c1d15 c0d21 c1d21 c0d13 c1d13
            refine (hC6.out _).mono ?_; rintro e w3 ⟨rfl, b3⟩
            replace kB := kB.trans (b3.mono kB.size)
            replace kd13 := kd13.below b3
            replace kd14 := kd14.below b3
            replace kd15 := kd15.below b3
            replace kd19 := kd19.below b3
            replace kd21 := kd21.below b3
            clear b3
            have c0d15 := kd15.c0; have c1d15 := kd15.c1
            go_wp2_with fail
            clear c0d15 c1d15
            go_ret
            exact ⟨rfl, kB⟩
    | some rr =>
      obtain ⟨d1, d2⟩ := rr
      obtain ⟨gd, hdz⟩ := Gd.of_decI hd
      have hA2 := Lib.hid (fun W v hv => add2_calls gp gq.neg v W hv)
      rw [zv_negate, ← Int.sub_eq_add_neg, hd, show normV (some (d1, d2)) = Value.tuple #[dv2 d1 (d2 : Int), .bool true] from rfl] at hA2
      have hC5 := Lib.hid (fun W => cmp_of d1 (d2 : Int) 0 0 W xo (by rw [cmpO_good gd Gd.zero, hdz, zv_zero, ord3_sub]; exact hxo.out.symm) gd.lo gd.hi (by decide) (by decide))
      clear hd hdz gd
      go_upto_region 7 with (fail)
      go_cut [19, 20] (fun s1 s2 wx => ∃ z19, s1 = .pointer (some ⟨z19, 0, none⟩) ∧ s2 = .bool true ∧ Below w.heap.size w wx ∧ DecAt wx z13 p i ∧ DecAt wx z14 q j ∧ DecAt wx z15 r k ∧ DecAt wx z19 d1 (d2 : Int))
      case first =>
        refine wp_region_noPanic ?_
        refine wp_region_held_drew (S := fun X => Below w.heap.size w X ∧ DecAt X z13 p i ∧ DecAt X z14 q j) (by kernel_rfl) ?_ (fun hHeld => ?_)
        · exact ⟨Below.drew kB, DecAt.drew kd13, DecAt.drew kd14⟩
        replace kB := Below.drew kB
        replace kd13 := DecAt.drew kd13
        replace kd14 := DecAt.drew kd14
        replace kd15 := DecAt.drew kd15
        obtain ⟨qw, hcur⟩ : ∃ uu, uu = wc.drew := ⟨_, rfl⟩
        rw [← hcur] at hHeld kB kd13 kd14 kd15 ⊢
        clear hcur
        refine wpAnyH_take (i := 0) (v := ?_) (by simp only [List.getElem?_toArray, List.getElem?_cons_succ, List.getElem?_cons_zero]; rfl) (by kernel_rfl) (by kernel_rfl) (by kernel_rfl) (fun _ _ _ h => h) (Or.inl ⟨by rfl, ?_⟩) hHeld ?_
        rotate_left
        · intro x hSw; (try dsimp only at hSw); obtain ⟨_, hd13, hd14⟩ := hSw; have c0d13 := hd13.c0; have c1d13 := hd13.c1; have c0d14 := hd14.c0; have c1d14 := hd14.c1; first | (go_simp; done) | (go_simp; with_reducible rfl)
        try simp only [Act.put, List.setIfInBounds_toArray, List.set_cons_zero, List.set_cons_succ]
        refine wpAnyH_take (i := 1) (v := ?_) (by simp only [List.getElem?_toArray, List.getElem?_cons_succ, List.getElem?_cons_zero]; rfl) (by kernel_rfl) (by kernel_rfl) (by kernel_rfl) (fun _ _ _ h => h) (Or.inl ⟨by rfl, ?_⟩) hHeld ?_
        rotate_left
        · intro x hSw; (try dsimp only at hSw); obtain ⟨_, hd13, hd14⟩ := hSw; have c0d13 := hd13.c0; have c1d13 := hd13.c1; have c0d14 := hd14.c0; have c1d14 := hd14.c1; first | (go_simp; done) | (go_simp; with_reducible rfl)
        try simp only [Act.put, List.setIfInBounds_toArray, List.set_cons_zero, List.set_cons_succ]
        refine wpAnyH_ready (rs := [2, 8]) (by kernel_rfl) (by simp) ?_
        refine AllReadyH.cons (by simp only [List.getElem?_toArray, List.getElem?_cons_succ, List.getElem?_cons_zero]; rfl) (fun K hK => ?_) ?_
        · try go_simp
          refine (hN1.out _).mono ?_; rintro e wq1 ⟨rfl, q1⟩
          replace kB := kB.trans (q1.mono kB.size)
          replace kd13 := kd13.below q1
          replace kd14 := kd14.below q1
          replace kd15 := kd15.below q1
          clear q1
          try go_wp2_with fail
          refine hK.out _ _ ?_ (fun hHeld => ?_)
          · exact ⟨kB, kd13, kd14⟩
          clear hK K
          try simp only [Act.put, List.setIfInBounds_toArray, List.set_cons_zero, List.set_cons_succ]
          refine wpAnyH_ready (rs := [3, 8]) (by kernel_rfl) (by simp) ?_
          refine AllReadyH.cons (by simp only [List.getElem?_toArray, List.getElem?_cons_succ, List.getElem?_cons_zero]; rfl) (fun K hK => ?_) ?_
          · go_simp
            have kw79 := row2 wq1 p i (-q) j
            have hge_bs := kB.size
            have hne_bs_d13 := kd13.lt
            have hne_bs_d14 := kd14.lt
            have hne_bs_d15 := kd15.lt
            replace kd13 := kd13.alloc (.cells #[.int .i64 p, .int .i64 i, .int .i64 (-q), .int .i64 j] 25)
            replace kd14 := kd14.alloc (.cells #[.int .i64 p, .int .i64 i, .int .i64 (-q), .int .i64 j] 25)
            replace kd15 := kd15.alloc (.cells #[.int .i64 p, .int .i64 i, .int .i64 (-q), .int .i64 j] 25)
            replace kB := kb_alloc kB (Nat.le_refl _) (.cells #[.int .i64 p, .int .i64 i, .int .i64 (-q), .int .i64 j] 25)
            obtain ⟨bs, hcur⟩ : ∃ uu, uu = wq1.heap.size := ⟨_, rfl⟩
            rw [← hcur] at hge_bs kw79 hne_bs_d13 hne_bs_d14 hne_bs_d15 ⊢
            clear hcur
            obtain ⟨q2, hcur⟩ : ∃ uu, uu = wq1.alloc (.cells #[.int .i64 p, .int .i64 i, .int .i64 (-q), .int .i64 j] 25) := ⟨_, rfl⟩
            rw [← hcur] at kB kd13 kd14 kd15 kw79 ⊢
            clear hcur
            refine hK.out _ _ ?_ (fun hHeld => ?_)
            · exact ⟨kB, kd13, kd14⟩
            clear hK K
            try simp only [Act.put, List.setIfInBounds_toArray, List.set_cons_zero, List.set_cons_succ]
            refine wpAnyH_ready (rs := [4, 8]) (by kernel_rfl) (by simp) ?_
            refine AllReadyH.cons (by simp only [List.getElem?_toArray, List.getElem?_cons_succ, List.getElem?_cons_zero]; rfl) (fun K hK => ?_) ?_
            · try go_simp
              refine (hA2.out _ _ kw79).mono ?_; rintro e wq3 ⟨rfl, q3⟩
              replace kB := kB.trans (q3.mono kB.size)
              replace kd13 := kd13.below q3
              replace kd14 := kd14.below q3
              replace kd15 := kd15.below q3
              replace kw79 := kw79.below q3
              clear q3
              try go_wp2_with fail
              refine hK.out _ _ ?_ (fun hHeld => ?_)
              · exact ⟨kB, kd13, kd14⟩
              clear hK K
              try simp only [Act.put, List.setIfInBounds_toArray, List.set_cons_zero, List.set_cons_succ]
              refine wpAnyH_take (i := 5) (v := ?_) (by simp only [List.getElem?_toArray, List.getElem?_cons_succ, List.getElem?_cons_zero]; rfl) (by kernel_rfl) (by kernel_rfl) (by kernel_rfl) (fun _ _ _ h => h) (Or.inl ⟨by rfl, ?_⟩) hHeld ?_
              rotate_left
              · intro x hSw; first | (go_simp; done) | (go_simp; with_reducible rfl)
              try simp only [Act.put, List.setIfInBounds_toArray, List.set_cons_zero, List.set_cons_succ]
              refine wpAnyH_take (i := 6) (v := ?_) (by simp only [List.getElem?_toArray, List.getElem?_cons_succ, List.getElem?_cons_zero]; rfl) (by kernel_rfl) (by kernel_rfl) (by kernel_rfl) (fun _ _ _ h => h) (Or.inl ⟨by rfl, ?_⟩) hHeld ?_
              rotate_left
              · intro x hSw; first | (go_simp; done) | (go_simp; with_reducible rfl)
              try simp only [Act.put, List.setIfInBounds_toArray, List.set_cons_zero, List.set_cons_succ]
              refine wpAnyH_take (i := 7) (v := ?_) (by simp only [List.getElem?_toArray, List.getElem?_cons_succ, List.getElem?_cons_zero]; rfl) (by kernel_rfl) (by kernel_rfl) (by kernel_rfl) (fun _ _ _ h => h) (Or.inl ⟨by rfl, ?_⟩) hHeld ?_
              rotate_left
              · intro x hSw; first | (go_simp; done) | (go_simp; with_reducible rfl)
              try simp only [Act.put, List.setIfInBounds_toArray, List.set_cons_zero, List.set_cons_succ]
              refine wpAnyH_ready (rs := [8]) (by kernel_rfl) (by simp) ?_
              refine AllReadyH.cons (by simp only [List.getElem?_toArray, List.getElem?_cons_succ, List.getElem?_cons_zero]; rfl) (fun K hK => ?_) AllReadyH.nil
              go_simp
              have kd19 := DecAt.new wq3 0 0
              have hge_z19 := kB.size
              have hne_z19_d13 := kd13.lt
              have hne_z19_d14 := kd14.lt
              have hne_z19_d15 := kd15.lt
              replace kd13 := kd13.alloc (.cells #[.int .i64 0, .int .i64 0] 25)
              replace kd14 := kd14.alloc (.cells #[.int .i64 0, .int .i64 0] 25)
              replace kd15 := kd15.alloc (.cells #[.int .i64 0, .int .i64 0] 25)
              replace kw79 := kw79.alloc (.cells #[.int .i64 0, .int .i64 0] 25)
              replace kB := kb_alloc kB (Nat.le_refl _) (.cells #[.int .i64 0, .int .i64 0] 25)
              obtain ⟨z19, hcur⟩ : ∃ uu, uu = wq3.heap.size := ⟨_, rfl⟩
              rw [← hcur] at hge_z19 kd19 hne_z19_d13 hne_z19_d14 hne_z19_d15 ⊢
              clear hcur
              obtain ⟨q4, hcur⟩ : ∃ uu, uu = wq3.alloc (.cells #[.int .i64 0, .int .i64 0] 25) := ⟨_, rfl⟩
              rw [← hcur] at kB kd13 kd14 kd15 kw79 kd19 ⊢
              clear hcur
              refine hK.out _ _ ?_ (fun hHeld => ?_)
              · exact ⟨kB, kd13, kd14⟩
              clear hK K
              try simp only [Act.put, List.setIfInBounds_toArray, List.set_cons_zero, List.set_cons_succ]
              refine wpAnyH_ready (rs := [9]) (by kernel_rfl) (by simp) ?_
              refine AllReadyH.cons (by simp only [List.getElem?_toArray, List.getElem?_cons_succ, List.getElem?_cons_zero]; rfl) (fun K hK => ?_) AllReadyH.nil
              have sc0 := kd19.c0; have sc1 := kd19.c1; have sf0 := kd19.f0; have sf1 := kd19.f1
              go_simp
              clear sc0 sc1 sf0 sf1
              replace kB := below_put (g := z19) kB (by omega) (d1) ((d2 : Int))
              replace kd13 := kd13.putOther (g := z19) (by omega) (d1) ((d2 : Int))
              replace kd14 := kd14.putOther (g := z19) (by omega) (d1) ((d2 : Int))
              replace kd15 := kd15.putOther (g := z19) (by omega) (d1) ((d2 : Int))
              replace kd19 := kd19.put (d1) ((d2 : Int))
              clear kw79
              unfold putDec at kB kd13 kd14 kd15 kd19
              refine hK.out _ _ ?_ (fun hHeld => ?_)
              · exact ⟨kB, kd13, kd14⟩
              clear hK K
              try simp only [Act.put, List.setIfInBounds_toArray, List.set_cons_zero, List.set_cons_succ]
              refine wpAnyH_take (i := 10) (v := ?_) (by simp only [List.getElem?_toArray, List.getElem?_cons_succ, List.getElem?_cons_zero]; rfl) (by kernel_rfl) (by kernel_rfl) (by kernel_rfl) (fun _ _ _ h => h) (Or.inl ⟨by rfl, ?_⟩) hHeld ?_
              rotate_left
              · intro x hSw; first | (go_simp; done) | (go_simp; with_reducible rfl)
              try simp only [Act.put, List.setIfInBounds_toArray, List.set_cons_zero, List.set_cons_succ]
              refine wpAnyH_done (by kernel_rfl) ?_ _
              refine NoPanic.normal ?_
              go_wp2_with fail
              go_meet
              exact ⟨z19, rfl, rfl, kB, kd13, kd14, kd15, kd19⟩
            refine AllReadyH.cons (by simp only [List.getElem?_toArray, List.getElem?_cons_succ, List.getElem?_cons_zero]; rfl) (fun K hK => ?_) AllReadyH.nil
            go_simp
            have kd19 := DecAt.new q2 0 0
            have hge_z19 := kB.size
            have hne_z19_d13 := kd13.lt
            have hne_z19_d14 := kd14.lt
            have hne_z19_d15 := kd15.lt
            replace kd13 := kd13.alloc (.cells #[.int .i64 0, .int .i64 0] 25)
            replace kd14 := kd14.alloc (.cells #[.int .i64 0, .int .i64 0] 25)
            replace kd15 := kd15.alloc (.cells #[.int .i64 0, .int .i64 0] 25)
            replace kw79 := kw79.alloc (.cells #[.int .i64 0, .int .i64 0] 25)
            replace kB := kb_alloc kB (Nat.le_refl _) (.cells #[.int .i64 0, .int .i64 0] 25)
            obtain ⟨z19, hcur⟩ : ∃ uu, uu = q2.heap.size := ⟨_, rfl⟩
            rw [← hcur] at hge_z19 kd19 hne_z19_d13 hne_z19_d14 hne_z19_d15 ⊢
            clear hcur
            obtain ⟨q5, hcur⟩ : ∃ uu, uu = q2.alloc (.cells #[.int .i64 0, .int .i64 0] 25) := ⟨_, rfl⟩
            rw [← hcur] at kB kd13 kd14 kd15 kw79 kd19 ⊢
            clear hcur
            refine hK.out _ _ ?_ (fun hHeld => ?_)
            · exact ⟨kB, kd13, kd14⟩
            clear hK K
            try simp only [Act.put, List.setIfInBounds_toArray, List.set_cons_zero, List.set_cons_succ]
            refine wpAnyH_ready (rs := [4]) (by kernel_rfl) (by simp) ?_
            refine AllReadyH.cons (by simp only [List.getElem?_toArray, List.getElem?_cons_succ, List.getElem?_cons_zero]; rfl) (fun K hK => ?_) AllReadyH.nil
            try go_simp
            refine (hA2.out _ _ kw79).mono ?_; rintro e wq6 ⟨rfl, q6⟩
            replace kB := kB.trans (q6.mono kB.size)
            replace kd13 := kd13.below q6
            replace kd14 := kd14.below q6
            replace kd15 := kd15.below q6
            replace kd19 := kd19.below q6
            replace kw79 := kw79.below q6
            clear q6
            try go_wp2_with fail
            refine hK.out _ _ ?_ (fun hHeld => ?_)
            · exact ⟨kB, kd13, kd14⟩
            clear hK K
            try simp only [Act.put, List.setIfInBounds_toArray, List.set_cons_zero, List.set_cons_succ]
            refine wpAnyH_take (i := 5) (v := ?_) (by simp only [List.getElem?_toArray, List.getElem?_cons_succ, List.getElem?_cons_zero]; rfl) (by kernel_rfl) (by kernel_rfl) (by kernel_rfl) (fun _ _ _ h => h) (Or.inl ⟨by rfl, ?_⟩) hHeld ?_
            rotate_left
            · intro x hSw; first | (go_simp; done) | (go_simp; with_reducible rfl)
            try simp only [Act.put, List.setIfInBounds_toArray, List.set_cons_zero, List.set_cons_succ]
            refine wpAnyH_take (i := 6) (v := ?_) (by simp only [List.getElem?_toArray, List.getElem?_cons_succ, List.getElem?_cons_zero]; rfl) (by kernel_rfl) (by kernel_rfl) (by kernel_rfl) (fun _ _ _ h => h) (Or.inl ⟨by rfl, ?_⟩) hHeld ?_
            rotate_left
            · intro x hSw; first | (go_simp; done) | (go_simp; with_reducible rfl)
            try simp only [Act.put, List.setIfInBounds_toArray, List.set_cons_zero, List.set_cons_succ]
            refine wpAnyH_take (i := 7) (v := ?_) (by simp only [List.getElem?_toArray, List.getElem?_cons_succ, List.getElem?_cons_zero]; rfl) (by kernel_rfl) (by kernel_rfl) (by kernel_rfl) (fun _ _ _ h => h) (Or.inl ⟨by rfl, ?_⟩) hHeld ?_
            rotate_left
            · intro x hSw; first | (go_simp; done) | (go_simp; with_reducible rfl)
            try simp only [Act.put, List.setIfInBounds_toArray, List.set_cons_zero, List.set_cons_succ]
            refine wpAnyH_ready (rs := [9]) (by kernel_rfl) (by simp) ?_
            refine AllReadyH.cons (by simp only [List.getElem?_toArray, List.getElem?_cons_succ, List.getElem?_cons_zero]; rfl) (fun K hK => ?_) AllReadyH.nil
            have sc0 := kd19.c0; have sc1 := kd19.c1; have sf0 := kd19.f0; have sf1 := kd19.f1
            go_simp
            clear sc0 sc1 sf0 sf1
            replace kB := below_put (g := z19) kB (by omega) (d1) ((d2 : Int))
            replace kd13 := kd13.putOther (g := z19) (by omega) (d1) ((d2 : Int))
            replace kd14 := kd14.putOther (g := z19) (by omega) (d1) ((d2 : Int))
            replace kd15 := kd15.putOther (g := z19) (by omega) (d1) ((d2 : Int))
            replace kd19 := kd19.put (d1) ((d2 : Int))
            clear kw79
            unfold putDec at kB kd13 kd14 kd15 kd19
            refine hK.out _ _ ?_ (fun hHeld => ?_)
            · exact ⟨kB, kd13, kd14⟩
            clear hK K
            try simp only [Act.put, List.setIfInBounds_toArray, List.set_cons_zero, List.set_cons_succ]
            refine wpAnyH_take (i := 10) (v := ?_) (by simp only [List.getElem?_toArray, List.getElem?_cons_succ, List.getElem?_cons_zero]; rfl) (by kernel_rfl) (by kernel_rfl) (by kernel_rfl) (fun _ _ _ h => h) (Or.inl ⟨by rfl, ?_⟩) hHeld ?_
            rotate_left
            · intro x hSw; first | (go_simp; done) | (go_simp; with_reducible rfl)
            try simp only [Act.put, List.setIfInBounds_toArray, List.set_cons_zero, List.set_cons_succ]
            refine wpAnyH_done (by kernel_rfl) ?_ _
            refine NoPanic.normal ?_
            go_wp2_with fail
            go_meet
            exact ⟨z19, rfl, rfl, kB, kd13, kd14, kd15, kd19⟩
          refine AllReadyH.cons (by simp only [List.getElem?_toArray, List.getElem?_cons_succ, List.getElem?_cons_zero]; rfl) (fun K hK => ?_) AllReadyH.nil
          go_simp
          have kd19 := DecAt.new wq1 0 0
          have hge_z19 := kB.size
          have hne_z19_d13 := kd13.lt
          have hne_z19_d14 := kd14.lt
          have hne_z19_d15 := kd15.lt
          replace kd13 := kd13.alloc (.cells #[.int .i64 0, .int .i64 0] 25)
          replace kd14 := kd14.alloc (.cells #[.int .i64 0, .int .i64 0] 25)
          replace kd15 := kd15.alloc (.cells #[.int .i64 0, .int .i64 0] 25)
          replace kB := kb_alloc kB (Nat.le_refl _) (.cells #[.int .i64 0, .int .i64 0] 25)
          obtain ⟨z19, hcur⟩ : ∃ uu, uu = wq1.heap.size := ⟨_, rfl⟩
          rw [← hcur] at hge_z19 kd19 hne_z19_d13 hne_z19_d14 hne_z19_d15 ⊢
          clear hcur
          obtain ⟨q7, hcur⟩ : ∃ uu, uu = wq1.alloc (.cells #[.int .i64 0, .int .i64 0] 25) := ⟨_, rfl⟩
          rw [← hcur] at kB kd13 kd14 kd15 kd19 ⊢
          clear hcur
          refine hK.out _ _ ?_ (fun hHeld => ?_)
          · exact ⟨kB, kd13, kd14⟩
          clear hK K
          try simp only [Act.put, List.setIfInBounds_toArray, List.set_cons_zero, List.set_cons_succ]
          refine wpAnyH_ready (rs := [3]) (by kernel_rfl) (by simp) ?_
          refine AllReadyH.cons (by simp only [List.getElem?_toArray, List.getElem?_cons_succ, List.getElem?_cons_zero]; rfl) (fun K hK => ?_) AllReadyH.nil
          go_simp
          have kw79 := row2 q7 p i (-q) j
          have hge_bs := kB.size
          have hne_bs_d13 := kd13.lt
          have hne_bs_d14 := kd14.lt
          have hne_bs_d15 := kd15.lt
          have hne_bs_d19 := kd19.lt
          replace kd13 := kd13.alloc (.cells #[.int .i64 p, .int .i64 i, .int .i64 (-q), .int .i64 j] 25)
          replace kd14 := kd14.alloc (.cells #[.int .i64 p, .int .i64 i, .int .i64 (-q), .int .i64 j] 25)
          replace kd15 := kd15.alloc (.cells #[.int .i64 p, .int .i64 i, .int .i64 (-q), .int .i64 j] 25)
          replace kd19 := kd19.alloc (.cells #[.int .i64 p, .int .i64 i, .int .i64 (-q), .int .i64 j] 25)
          replace kB := kb_alloc kB (Nat.le_refl _) (.cells #[.int .i64 p, .int .i64 i, .int .i64 (-q), .int .i64 j] 25)
          obtain ⟨bs, hcur⟩ : ∃ uu, uu = q7.heap.size := ⟨_, rfl⟩
          rw [← hcur] at hge_bs kw79 hne_bs_d13 hne_bs_d14 hne_bs_d15 hne_bs_d19 ⊢
          clear hcur
          obtain ⟨q8, hcur⟩ : ∃ uu, uu = q7.alloc (.cells #[.int .i64 p, .int .i64 i, .int .i64 (-q), .int .i64 j] 25) := ⟨_, rfl⟩
          rw [← hcur] at kB kd13 kd14 kd15 kd19 kw79 ⊢
          clear hcur
          refine hK.out _ _ ?_ (fun hHeld => ?_)
          · exact ⟨kB, kd13, kd14⟩
          clear hK K
          try simp only [Act.put, List.setIfInBounds_toArray, List.set_cons_zero, List.set_cons_succ]
          refine wpAnyH_ready (rs := [4]) (by kernel_rfl) (by simp) ?_
          refine AllReadyH.cons (by simp only [List.getElem?_toArray, List.getElem?_cons_succ, List.getElem?_cons_zero]; rfl) (fun K hK => ?_) AllReadyH.nil
          try go_simp
          refine (hA2.out _ _ kw79).mono ?_; rintro e wq9 ⟨rfl, q9⟩
          replace kB := kB.trans (q9.mono kB.size)
          replace kd13 := kd13.below q9
          replace kd14 := kd14.below q9
          replace kd15 := kd15.below q9
          replace kd19 := kd19.below q9
          replace kw79 := kw79.below q9
          clear q9
          try go_wp2_with fail
          refine hK.out _ _ ?_ (fun hHeld => ?_)
          · exact ⟨kB, kd13, kd14⟩
          clear hK K
          try simp only [Act.put, List.setIfInBounds_toArray, List.set_cons_zero, List.set_cons_succ]
          refine wpAnyH_take (i := 5) (v := ?_) (by simp only [List.getElem?_toArray, List.getElem?_cons_succ, List.getElem?_cons_zero]; rfl) (by kernel_rfl) (by kernel_rfl) (by kernel_rfl) (fun _ _ _ h => h) (Or.inl ⟨by rfl, ?_⟩) hHeld ?_
          rotate_left
          · intro x hSw; first | (go_simp; done) | (go_simp; with_reducible rfl)
          try simp only [Act.put, List.setIfInBounds_toArray, List.set_cons_zero, List.set_cons_succ]
          refine wpAnyH_take (i := 6) (v := ?_) (by simp only [List.getElem?_toArray, List.getElem?_cons_succ, List.getElem?_cons_zero]; rfl) (by kernel_rfl) (by kernel_rfl) (by kernel_rfl) (fun _ _ _ h => h) (Or.inl ⟨by rfl, ?_⟩) hHeld ?_
          rotate_left
          · intro x hSw; first | (go_simp; done) | (go_simp; with_reducible rfl)
          try simp only [Act.put, List.setIfInBounds_toArray, List.set_cons_zero, List.set_cons_succ]
          refine wpAnyH_take (i := 7) (v := ?_) (by simp only [List.getElem?_toArray, List.getElem?_cons_succ, List.getElem?_cons_zero]; rfl) (by kernel_rfl) (by kernel_rfl) (by kernel_rfl) (fun _ _ _ h => h) (Or.inl ⟨by rfl, ?_⟩) hHeld ?_
          rotate_left
          · intro x hSw; first | (go_simp; done) | (go_simp; with_reducible rfl)
          try simp only [Act.put, List.setIfInBounds_toArray, List.set_cons_zero, List.set_cons_succ]
          refine wpAnyH_ready (rs := [9]) (by kernel_rfl) (by simp) ?_
          refine AllReadyH.cons (by simp only [List.getElem?_toArray, List.getElem?_cons_succ, List.getElem?_cons_zero]; rfl) (fun K hK => ?_) AllReadyH.nil
          have sc0 := kd19.c0; have sc1 := kd19.c1; have sf0 := kd19.f0; have sf1 := kd19.f1
          go_simp
          clear sc0 sc1 sf0 sf1
          replace kB := below_put (g := z19) kB (by omega) (d1) ((d2 : Int))
          replace kd13 := kd13.putOther (g := z19) (by omega) (d1) ((d2 : Int))
          replace kd14 := kd14.putOther (g := z19) (by omega) (d1) ((d2 : Int))
          replace kd15 := kd15.putOther (g := z19) (by omega) (d1) ((d2 : Int))
          replace kd19 := kd19.put (d1) ((d2 : Int))
          clear kw79
          unfold putDec at kB kd13 kd14 kd15 kd19
          refine hK.out _ _ ?_ (fun hHeld => ?_)
          · exact ⟨kB, kd13, kd14⟩
          clear hK K
          try simp only [Act.put, List.setIfInBounds_toArray, List.set_cons_zero, List.set_cons_succ]
          refine wpAnyH_take (i := 10) (v := ?_) (by simp only [List.getElem?_toArray, List.getElem?_cons_succ, List.getElem?_cons_zero]; rfl) (by kernel_rfl) (by kernel_rfl) (by kernel_rfl) (fun _ _ _ h => h) (Or.inl ⟨by rfl, ?_⟩) hHeld ?_
          rotate_left
          · intro x hSw; first | (go_simp; done) | (go_simp; with_reducible rfl)
          try simp only [Act.put, List.setIfInBounds_toArray, List.set_cons_zero, List.set_cons_succ]
          refine wpAnyH_done (by kernel_rfl) ?_ _
          refine NoPanic.normal ?_
          go_wp2_with fail
          go_meet
          exact ⟨z19, rfl, rfl, kB, kd13, kd14, kd15, kd19⟩
        refine AllReadyH.cons (by simp only [List.getElem?_toArray, List.getElem?_cons_succ, List.getElem?_cons_zero]; rfl) (fun K hK => ?_) AllReadyH.nil
        go_simp
        have kd19 := DecAt.new qw 0 0
        have hge_z19 := kB.size
        have hne_z19_d13 := kd13.lt
        have hne_z19_d14 := kd14.lt
        have hne_z19_d15 := kd15.lt
        replace kd13 := kd13.alloc (.cells #[.int .i64 0, .int .i64 0] 25)
        replace kd14 := kd14.alloc (.cells #[.int .i64 0, .int .i64 0] 25)
        replace kd15 := kd15.alloc (.cells #[.int .i64 0, .int .i64 0] 25)
        replace kB := kb_alloc kB (Nat.le_refl _) (.cells #[.int .i64 0, .int .i64 0] 25)
        obtain ⟨z19, hcur⟩ : ∃ uu, uu = qw.heap.size := ⟨_, rfl⟩
        rw [← hcur] at hge_z19 kd19 hne_z19_d13 hne_z19_d14 hne_z19_d15 ⊢
        clear hcur
        obtain ⟨q10, hcur⟩ : ∃ uu, uu = qw.alloc (.cells #[.int .i64 0, .int .i64 0] 25) := ⟨_, rfl⟩
        rw [← hcur] at kB kd13 kd14 kd15 kd19 ⊢
        clear hcur
        refine hK.out _ _ ?_ (fun hHeld => ?_)
        · exact ⟨kB, kd13, kd14⟩
        clear hK K
        try simp only [Act.put, List.setIfInBounds_toArray, List.set_cons_zero, List.set_cons_succ]
        refine wpAnyH_ready (rs := [2]) (by kernel_rfl) (by simp) ?_
        refine AllReadyH.cons (by simp only [List.getElem?_toArray, List.getElem?_cons_succ, List.getElem?_cons_zero]; rfl) (fun K hK => ?_) AllReadyH.nil
        try go_simp
        refine (hN1.out _).mono ?_; rintro e wq11 ⟨rfl, q11⟩
        replace kB := kB.trans (q11.mono kB.size)
        replace kd13 := kd13.below q11
        replace kd14 := kd14.below q11
        replace kd15 := kd15.below q11
        replace kd19 := kd19.below q11
        clear q11
        try go_wp2_with fail
        refine hK.out _ _ ?_ (fun hHeld => ?_)
        · exact ⟨kB, kd13, kd14⟩
        clear hK K
        try simp only [Act.put, List.setIfInBounds_toArray, List.set_cons_zero, List.set_cons_succ]
        refine wpAnyH_ready (rs := [3]) (by kernel_rfl) (by simp) ?_
        refine AllReadyH.cons (by simp only [List.getElem?_toArray, List.getElem?_cons_succ, List.getElem?_cons_zero]; rfl) (fun K hK => ?_) AllReadyH.nil
        go_simp
        have kw79 := row2 wq11 p i (-q) j
        have hge_bs := kB.size
        have hne_bs_d13 := kd13.lt
        have hne_bs_d14 := kd14.lt
        have hne_bs_d15 := kd15.lt
        have hne_bs_d19 := kd19.lt
        replace kd13 := kd13.alloc (.cells #[.int .i64 p, .int .i64 i, .int .i64 (-q), .int .i64 j] 25)
        replace kd14 := kd14.alloc (.cells #[.int .i64 p, .int .i64 i, .int .i64 (-q), .int .i64 j] 25)
        replace kd15 := kd15.alloc (.cells #[.int .i64 p, .int .i64 i, .int .i64 (-q), .int .i64 j] 25)
        replace kd19 := kd19.alloc (.cells #[.int .i64 p, .int .i64 i, .int .i64 (-q), .int .i64 j] 25)
        replace kB := kb_alloc kB (Nat.le_refl _) (.cells #[.int .i64 p, .int .i64 i, .int .i64 (-q), .int .i64 j] 25)
        obtain ⟨bs, hcur⟩ : ∃ uu, uu = wq11.heap.size := ⟨_, rfl⟩
        rw [← hcur] at hge_bs kw79 hne_bs_d13 hne_bs_d14 hne_bs_d15 hne_bs_d19 ⊢
        clear hcur
        obtain ⟨q12, hcur⟩ : ∃ uu, uu = wq11.alloc (.cells #[.int .i64 p, .int .i64 i, .int .i64 (-q), .int .i64 j] 25) := ⟨_, rfl⟩
        rw [← hcur] at kB kd13 kd14 kd15 kd19 kw79 ⊢
        clear hcur
        refine hK.out _ _ ?_ (fun hHeld => ?_)
        · exact ⟨kB, kd13, kd14⟩
        clear hK K
        try simp only [Act.put, List.setIfInBounds_toArray, List.set_cons_zero, List.set_cons_succ]
        refine wpAnyH_ready (rs := [4]) (by kernel_rfl) (by simp) ?_
        refine AllReadyH.cons (by simp only [List.getElem?_toArray, List.getElem?_cons_succ, List.getElem?_cons_zero]; rfl) (fun K hK => ?_) AllReadyH.nil
        try go_simp
        refine (hA2.out _ _ kw79).mono ?_; rintro e wq13 ⟨rfl, q13⟩
        replace kB := kB.trans (q13.mono kB.size)
        replace kd13 := kd13.below q13
        replace kd14 := kd14.below q13
        replace kd15 := kd15.below q13
        replace kd19 := kd19.below q13
        replace kw79 := kw79.below q13
        clear q13
        try go_wp2_with fail
        refine hK.out _ _ ?_ (fun hHeld => ?_)
        · exact ⟨kB, kd13, kd14⟩
        clear hK K
        try simp only [Act.put, List.setIfInBounds_toArray, List.set_cons_zero, List.set_cons_succ]
        refine wpAnyH_take (i := 5) (v := ?_) (by simp only [List.getElem?_toArray, List.getElem?_cons_succ, List.getElem?_cons_zero]; rfl) (by kernel_rfl) (by kernel_rfl) (by kernel_rfl) (fun _ _ _ h => h) (Or.inl ⟨by rfl, ?_⟩) hHeld ?_
        rotate_left
        · intro x hSw; first | (go_simp; done) | (go_simp; with_reducible rfl)
        try simp only [Act.put, List.setIfInBounds_toArray, List.set_cons_zero, List.set_cons_succ]
        refine wpAnyH_take (i := 6) (v := ?_) (by simp only [List.getElem?_toArray, List.getElem?_cons_succ, List.getElem?_cons_zero]; rfl) (by kernel_rfl) (by kernel_rfl) (by kernel_rfl) (fun _ _ _ h => h) (Or.inl ⟨by rfl, ?_⟩) hHeld ?_
        rotate_left
        · intro x hSw; first | (go_simp; done) | (go_simp; with_reducible rfl)
        try simp only [Act.put, List.setIfInBounds_toArray, List.set_cons_zero, List.set_cons_succ]
        refine wpAnyH_take (i := 7) (v := ?_) (by simp only [List.getElem?_toArray, List.getElem?_cons_succ, List.getElem?_cons_zero]; rfl) (by kernel_rfl) (by kernel_rfl) (by kernel_rfl) (fun _ _ _ h => h) (Or.inl ⟨by rfl, ?_⟩) hHeld ?_
        rotate_left
        · intro x hSw; first | (go_simp; done) | (go_simp; with_reducible rfl)
        try simp only [Act.put, List.setIfInBounds_toArray, List.set_cons_zero, List.set_cons_succ]
        refine wpAnyH_ready (rs := [9]) (by kernel_rfl) (by simp) ?_
        refine AllReadyH.cons (by simp only [List.getElem?_toArray, List.getElem?_cons_succ, List.getElem?_cons_zero]; rfl) (fun K hK => ?_) AllReadyH.nil
        have sc0 := kd19.c0; have sc1 := kd19.c1; have sf0 := kd19.f0; have sf1 := kd19.f1
        go_simp
        clear sc0 sc1 sf0 sf1
        replace kB := below_put (g := z19) kB (by omega) (d1) ((d2 : Int))
        replace kd13 := kd13.putOther (g := z19) (by omega) (d1) ((d2 : Int))
        replace kd14 := kd14.putOther (g := z19) (by omega) (d1) ((d2 : Int))
        replace kd15 := kd15.putOther (g := z19) (by omega) (d1) ((d2 : Int))
        replace kd19 := kd19.put (d1) ((d2 : Int))
        clear kw79
        unfold putDec at kB kd13 kd14 kd15 kd19
        refine hK.out _ _ ?_ (fun hHeld => ?_)
        · exact ⟨kB, kd13, kd14⟩
        clear hK K
        try simp only [Act.put, List.setIfInBounds_toArray, List.set_cons_zero, List.set_cons_succ]
        refine wpAnyH_take (i := 10) (v := ?_) (by simp only [List.getElem?_toArray, List.getElem?_cons_succ, List.getElem?_cons_zero]; rfl) (by kernel_rfl) (by kernel_rfl) (by kernel_rfl) (fun _ _ _ h => h) (Or.inl ⟨by rfl, ?_⟩) hHeld ?_
        rotate_left
        · intro x hSw; first | (go_simp; done) | (go_simp; with_reducible rfl)
        try simp only [Act.put, List.setIfInBounds_toArray, List.set_cons_zero, List.set_cons_succ]
        refine wpAnyH_done (by kernel_rfl) ?_ _
        refine NoPanic.normal ?_
        go_wp2_with fail
        go_meet
        exact ⟨z19, rfl, rfl, kB, kd13, kd14, kd15, kd19⟩
      case rest =>
        clear kB kd13 kd14 kd15
        obtain ⟨z19, rfl, rfl, kB, kd13, kd14, kd15, kd19⟩ := hcut
        have c0d19 := kd19.c0; have c1d19 := kd19.c1
        go_wp2_with fail
        clear c0d19 c1d19
        refine (hC5.out _).mono ?_; rintro e w1 ⟨rfl, b1⟩
        replace kB := kB.trans (b1.mono kB.size)
        replace kd13 := kd13.below b1
        replace kd14 := kd14.below b1
        replace kd15 := kd15.below b1
        replace kd19 := kd19.below b1
        clear b1
        go_upto_region 10 with (fail)
        have c0d13 := kd13.c0; have c1d13 := kd13.c1; have c0d15 := kd15.c0; have c1d15 := kd15.c1
        go_wp2_with fail
        clear c0d13 c1d13 c0d15 c1d15
        have krow := row2 w1 p i r k
        replace kB := kb_alloc kB (Nat.le_refl _) (.cells #[.int .i64 p, .int .i64 i, .int .i64 r, .int .i64 k] 25)
        replace kd13 := kd13.alloc (.cells #[.int .i64 p, .int .i64 i, .int .i64 r, .int .i64 k] 25)
        replace kd14 := kd14.alloc (.cells #[.int .i64 p, .int .i64 i, .int .i64 r, .int .i64 k] 25)
        replace kd15 := kd15.alloc (.cells #[.int .i64 p, .int .i64 i, .int .i64 r, .int .i64 k] 25)
        replace kd19 := kd19.alloc (.cells #[.int .i64 p, .int .i64 i, .int .i64 r, .int .i64 k] 25)
        refine (hA3.out _ _ krow).mono ?_; rintro e w2 ⟨rfl, b2⟩
        replace kB := kB.trans (b2.mono kB.size)
        replace kd13 := kd13.below b2
        replace kd14 := kd14.below b2
        replace kd15 := kd15.below b2
        replace kd19 := kd19.below b2
        clear b2
        clear krow
        cases he : decI (zv p i + zv r k) with
        | none =>
          rw [show normV none = Value.tuple #[dv2 0 0, .bool false] from rfl]
          clear he
          replace kB := kb_alloc kB (Nat.le_refl _) (.cells #[.int .i64 0, .int .i64 0] 25)
          replace kd13 := kd13.alloc (.cells #[.int .i64 0, .int .i64 0] 25)
          replace kd14 := kd14.alloc (.cells #[.int .i64 0, .int .i64 0] 25)
          replace kd15 := kd15.alloc (.cells #[.int .i64 0, .int .i64 0] 25)
          replace kd19 := kd19.alloc (.cells #[.int .i64 0, .int .i64 0] 25)
          have kd21 := DecAt.new w2 0 0
          have c0d15 := kd15.c0; have c1d15 := kd15.c1; have c0d13 := kd13.c0; have c1d13 := kd13.c1
          go_wp2_with fail
          clear c0d15 c1d15 c0d13 c1d13
          go_ret
          exact ⟨rfl, kB⟩
        | some rr2 =>
          obtain ⟨e1, e2⟩ := rr2
          rw [show normV (some (e1, e2)) = Value.tuple #[dv2 e1 (e2 : Int), .bool true] from rfl]
          obtain ⟨ge, hez⟩ := Gd.of_decI he
          clear he
          replace kB := kb_alloc kB (Nat.le_refl _) (.cells #[.int .i64 e1, .int .i64 (e2 : Int)] 25)
          replace kd13 := kd13.alloc (.cells #[.int .i64 e1, .int .i64 (e2 : Int)] 25)
          replace kd14 := kd14.alloc (.cells #[.int .i64 e1, .int .i64 (e2 : Int)] 25)
          replace kd15 := kd15.alloc (.cells #[.int .i64 e1, .int .i64 (e2 : Int)] 25)
          replace kd19 := kd19.alloc (.cells #[.int .i64 e1, .int .i64 (e2 : Int)] 25)
          have kd21 := DecAt.new w2 e1 (e2 : Int)
          go_upto_region 11 with (fail)
          obtain ⟨W3, hcur⟩ : ∃ uu, uu = w2.alloc (.cells #[.int .i64 e1, .int .i64 (e2 : Int)] 25) := ⟨_, rfl⟩
          rw [← hcur] at kB kd13 kd14 kd15 kd19 kd21 ⊢
          clear hcur
          obtain ⟨z21, hcur⟩ : ∃ uu, uu = w2.heap.size := ⟨_, rfl⟩
          rw [← hcur] at kd21 ⊢
          clear hcur
          by_cases hr0 : r < 0
          · clear hez ge
            have c0d15 := kd15.c0; have c1d15 := kd15.c1; have c0d13 := kd13.c0; have c1d13 := kd13.c1
            go_wp2_with fail
            clear c0d15 c1d15 c0d13 c1d13
            go_ret
            exact ⟨rfl, kB⟩
          · obtain ⟨u, hu⟩ : ∃ u, u = ord3 (zv e1 (e2 : Int)) (zv p i) := ⟨_, rfl⟩
            have hu0 : 0 ≤ u := by
              have hrz : ¬ zv r k < 0 := fun e => hr0 ((zv_neg r k).1 e)
              rw [hu, hez]
              rcases ord3_cases (zv p i + zv r k) (zv p i) with ⟨h, e⟩ | ⟨h, e⟩ | ⟨h, e⟩ <;> omega
            have hC6 := Lib.hid (fun W => cmp_of e1 (e2 : Int) p i W u (by rw [cmpO_good ge gp]; exact hu.symm) ge.lo ge.hi gp.lo gp.hi)
            clear hu hez ge
            have c0d15 := kd15.c0; have c1d15 := kd15.c1; have c0d21 := kd21.c0; have c1d21 := kd21.c1; have c0d13 := kd13.c0; have c1d13 := kd13.c1
            go_wp2_with fail
            clear c0d15 c1d15 c0d21 c1d21 c0d13 c1d13
            refine (hC6.out _).mono ?_; rintro e w4 ⟨rfl, b4⟩
            replace kB := kB.trans (b4.mono kB.size)
            replace kd13 := kd13.below b4
            replace kd14 := kd14.below b4
            replace kd15 := kd15.below b4
            replace kd19 := kd19.below b4
            replace kd21 := kd21.below b4
            clear b4
            have c0d15 := kd15.c0; have c1d15 := kd15.c1
            go_wp2_with fail
            clear c0d15 c1d15
            go_ret
            exact ⟨rfl, kB⟩

end Go.Proofs.Ytpciohnnnpgpiaa
