/- The walk of the reference's quotient. -/
import Derived.Test.YtpciohnnnpgpiaaRefSumK0
set_option linter.unusedVariables false
set_option linter.unusedSimpArgs false
namespace Go.Proofs.Ytpciohnnnpgpiaa
open Go.RowKit Dc
attribute [local go_sem ↓] Go.wp_at_zero Go.wp_at_succ

theorem own_lower {w : World} {b c e size n : Nat} {v : Value} {xs : List Value} (hc : c ≤ b) (h : w.ownsRow b e size v n xs) : w.ownsRow c e size v n xs := by
  obtain ⟨hl, h⟩ := h
  refine ⟨hl, ?_⟩
  rcases h with h | ⟨g, cap, cur, h1, h2, h3⟩
  · exact .inl h
  · exact .inr ⟨g, cap, cur, h1, Nat.le_trans hc h2, h3⟩
theorem news_one {w : World} {g d : Nat} (h : w.heap[g]? = some (.cells #[.int .u8 (d : Nat)] 5)) : ∀ j u, (ints [d])[j]? = some u → w.cell? ((⟨g, 0, none⟩ : Addr).add j) = some u :=
  fun j u hu => World.news_of_block h j u hu
set_option maxRecDepth 100000 in
set_option maxHeartbeats 8000000 in
theorem rquotient_calls (x y : Nat) (v u : Value) (w : World) (hv : DR w v (digs x)) (hu : DR w u (digs y)) (hx : x < 10 ^ 80) (hy0 : 0 < y) (hy : y < 10 ^ 40) :
    Calls Try.prog 36 #[v, u] w fun e w' => ∃ q r, e = .returned (.tuple #[q, r]) ∧ DR w' q (digs (x / y)) ∧ DR w' r (digs (x % y)) ∧ Below w.heap.size w w' := by
  obtain ⟨i0, hi, hz0, hz1, hz2⟩ := info_parts (P := Try.prog) (t := 5) (z := .int .u8 0) (n := 1) (m := 1) (by kernel_rfl)
  have Hi := Lib.hid (⟨hi, hz0, hz1, hz2⟩ : _ ∧ _ ∧ _ ∧ _)
  have Hu := Lib.hid hu
  obtain ⟨A, capa, rfl, h1, h2, h3⟩ := hv
  have hla : (digs x).length ≤ 80 := digs_len_le hx
  have Ha : Hid (∀ i, i < (digs x).length → ∃ b off, A = some ⟨b, off, none⟩ ∧ b < w.heap.size ∧ w.cell? ⟨b, off + i, none⟩ = some (.int .u8 (dgt x ((digs x).length - 1 - i) : Nat))) := fun i a => by
    obtain ⟨g, off, e, hl, hc⟩ := h3 (by omega)
    have h := digs_at x ((digs x).length - i) (by omega) (by omega)
    rw [show (digs x).length - ((digs x).length - i) = i by omega, show (digs x).length - i - 1 = (digs x).length - 1 - i by omega] at h
    exact ⟨g, off, e, hl, hc _ _ h⟩
  have hxl := digs_lt x
  obtain ⟨la, hlae⟩ : ∃ la, la = (digs x).length := ⟨_, rfl⟩
  rw [← hlae] at h1 hla Ha hxl ⊢
  have Hp0 : Hid (x / 10 ^ (la - 0) = 0) := Nat.div_eq_of_lt hxl
  have Hpe : Hid (x / 10 ^ (la - la) = x) := by show _ = _; rw [Nat.sub_self, Nat.pow_zero, Nat.div_one]
  have Hps := Lib.hid (fun i (h : i < la) => pre_step x la i h)
  have Hds := Lib.hid (fun i => dgt_le x (la - 1 - i))
  obtain ⟨P, hP⟩ : ∃ P : Nat → Nat, P = fun i => x / 10 ^ (la - i) := ⟨_, rfl⟩
  obtain ⟨D, hD⟩ : ∃ D : Nat → Nat, D = fun i => dgt x (la - 1 - i) := ⟨_, rfl⟩
  have Hps2 : Hid (∀ i, i < la → P (i + 1) = 10 * P i + D i) := fun i h => by rw [hP, hD]; exact Hps.out i h
  have Hds2 : Hid (∀ i, D i ≤ 9) := fun i => by rw [hD]; exact Hds.out i
  have Hp02 : Hid (P 0 = 0) := by show _ = _; rw [hP]; exact Hp0.out
  have Hpe2 : Hid (P la = x) := by show _ = _; rw [hP]; exact Hpe.out
  have Ha2 : Hid (∀ i, i < la → ∃ b off, A = some ⟨b, off, none⟩ ∧ b < w.heap.size ∧ w.cell? ⟨b, off + i, none⟩ = some (.int .u8 (D i : Nat))) := fun i h => by rw [hD]; exact Ha.out i h
  have Hy := Lib.hid (⟨hy0, hy⟩ : _ ∧ _)
  unfold maxLen at h2
  clear hi hz0 hz1 hz2 h3 hxl hlae Hp0 Hpe Hps Hds hP hD Ha hx hy0 hy hu
  go_enter Try.func36, Try.ntmps36
  go_wp2_with fail
  go_loopw [6, 7, 8] (fun s6 s7 s8 wr => ∃ i : Nat, i ≤ la ∧ s8 = .int .i64 (i : Nat) ∧ Hid (Below w.heap.size w wr ∧ DR wr s7 (digs (P i % y)) ∧ ∃ ql : List Nat, ql.length = i ∧ (∀ d ∈ ql, d ≤ 9) ∧ valN ql = P i / y ∧ wr.ownsRow w.heap.size 5 1 s6 i (ints ql))) (fun _ _ s8 _ => la - (intOf s8).toNat)
  case atStart => exact ⟨0, Nat.zero_le _, rfl, Below.refl _ _, by rw [Hp02.out, Nat.zero_mod, digs_zero]; exact DR.nil _, [], rfl, by simp, by rw [Hp02.out, Nat.zero_div]; rfl, World.ownsRow_nil _ _ _ _⟩
  case round =>
    obtain ⟨i, hil, rfl, H⟩ := hrel
    by_cases hlt : i < la
    · obtain ⟨hB, hR, ql, hql, hq9, hqv, hO⟩ := H.out
      obtain ⟨ba, offa, rfl, hlta, eca⟩ := Ha2.out i hlt
      have hlta2 : ba < wr.heap.size := Nat.lt_of_lt_of_le hlta hB.size
      have eca2 := (hB.cell (p := ⟨ba, offa + i, none⟩) hlta).trans eca
      have hd9 := Hds2.out i
      have hps := Hps2.out i hlt
      have hds := div_step (P i) (D i) Hy.out.1
      rw [← hps] at hds
      have hRy : P i % y < y := Nat.mod_lt _ Hy.out.1
      have hQ9 := q_digit hRy hd9
      have hRl : (digs (P i % y)).length ≤ 40 := digs_len_le (Nat.lt_trans hRy Hy.out.2)
      obtain ⟨R, hRe⟩ : ∃ R, R = P i % y := ⟨_, rfl⟩
      rw [← hRe] at hR hds hRy hQ9 hRl
      generalize D i = d at *
      obtain ⟨N, hN⟩ : ∃ N, N = 10 * R + d := ⟨_, rfl⟩
      have htr := Lib.hid (fun W V (hV : DRc wr.heap.size W V (digs R ++ [d])) => rtrim_from wr.heap.size (digs R ++ [d]) V W hV (fun e he => by rcases List.mem_append.1 he with h | h; exact Nat.le_trans (digs_le R e h) (by omega); rw [List.mem_singleton.1 h]; omega))
      rw [trim_snoc R d hd9, ← hN] at htr
      rw [← hN] at hds hQ9
      have hN80 : Hid (N < 10 ^ 80) := by
        have h40 := Hy.out.2
        show _ < _
        omega
      have hds1 := Lib.hid hds.1
      have hds2 := Lib.hid hds.2
      have hqv' := Lib.hid hqv
      have hq9' := Lib.hid hq9
      have kR := hR
      have HO := Lib.hid hO
      have HB := Lib.hid hB
      have hi81 : i ≤ 80 := by omega
      have hix : (i : Int) < (la : Int) := by omega
      have hto : ((i : Int)).toNat = i := by omega
      clear hR hRe hRy hds hqv hq9 hO hB hps eca hN H
      go_upto_region 5 with (fail)
      go_cut [7] (fun s7 wx => DRc wr.heap.size wx s7 (digs N) ∧ Below wr.heap.size wr wx)
      case first =>
        refine wp_region_noPanic ?_
        refine wp_region_held_drew (S := fun X => Below wr.heap.size wr X) (by kernel_rfl) ?_ (fun hHeld => ?_)
        · exact Below.drew (Below.refl _ _)
        have kW : Below wr.heap.size wr wr.drew := Below.drew (Below.refl _ _)
        obtain ⟨qw, hcur⟩ : ∃ uu, uu = wr.drew := ⟨_, rfl⟩
        rw [← hcur] at hHeld kW ⊢
        clear hcur
        refine wpAnyH_take (i := 0) (v := ?_) (by simp only [List.getElem?_toArray, List.getElem?_cons_succ, List.getElem?_cons_zero]; rfl) (by kernel_rfl) (by kernel_rfl) (by kernel_rfl) (fun _ _ _ h => h) (Or.inl ⟨by rfl, ?_⟩) hHeld ?_
        rotate_left
        · intro x hSw; (try dsimp only at hSw); first | (go_simp; done) | (go_simp; with_reducible rfl)
        try simp only [Act.put, List.setIfInBounds_toArray, List.set_cons_zero, List.set_cons_succ]
        refine wpAnyH_take (i := 2) (v := ?_) (by simp only [List.getElem?_toArray, List.getElem?_cons_succ, List.getElem?_cons_zero]; rfl) (by kernel_rfl) (by kernel_rfl) (by kernel_rfl) (fun _ _ _ h => h) (Or.inl ⟨by rfl, ?_⟩) hHeld ?_
        rotate_left
        · intro x hSw; (try dsimp only at hSw); first | (go_simp; done) | (go_simp; with_reducible rfl)
        try simp only [Act.put, List.setIfInBounds_toArray, List.set_cons_zero, List.set_cons_succ]
        refine wpAnyH_take (i := 3) (v := ?_) (by simp only [List.getElem?_toArray, List.getElem?_cons_succ, List.getElem?_cons_zero]; rfl) (by kernel_rfl) (by kernel_rfl) (by kernel_rfl) (fun _ _ _ h => h) (Or.inl ⟨by rfl, ?_⟩) hHeld ?_
        rotate_left
        · intro x hSw; (try dsimp only at hSw); first | (go_simp; done) | (go_simp; with_reducible rfl)
        try simp only [Act.put, List.setIfInBounds_toArray, List.set_cons_zero, List.set_cons_succ]
        refine wpAnyH_take (i := 4) (v := ?_) (by simp only [List.getElem?_toArray, List.getElem?_cons_succ, List.getElem?_cons_zero]; rfl) (by kernel_rfl) (by kernel_rfl) (by kernel_rfl) (fun _ _ _ h => h) (Or.inl ⟨by rfl, ?_⟩) hHeld ?_
        rotate_left
        · intro x hSw; (try dsimp only at hSw); first | (go_simp; done) | (go_simp; with_reducible rfl)
        try simp only [Act.put, List.setIfInBounds_toArray, List.set_cons_zero, List.set_cons_succ]
        refine wpAnyH_take (i := 5) (v := ?_) (by simp only [List.getElem?_toArray, List.getElem?_cons_succ, List.getElem?_cons_zero]; rfl) (by kernel_rfl) (by kernel_rfl) (by kernel_rfl) (fun _ _ _ h => h) (Or.inl ⟨by rfl, ?_⟩) hHeld ?_
        rotate_left
        · intro x hSw; (try dsimp only at hSw); have ec := (hSw.cell (p := ⟨ba, offa + i, none⟩) hlta2).trans eca2; first | (go_simp; done) | (go_simp; with_reducible rfl)
        try simp only [Act.put, List.setIfInBounds_toArray, List.set_cons_zero, List.set_cons_succ]
        refine wpAnyH_ready (rs := [1, 6]) (by kernel_rfl) (by simp) ?_
        refine AllReadyH.cons (by simp only [List.getElem?_toArray, List.getElem?_cons_succ, List.getElem?_cons_zero]; rfl) (fun K hK => ?_) ?_
        · have bs := kW.size
          refine step_append_row (by rfl) _ _ (by rfl) (digs R) (by rfl) (by exact kR.below kW) (by omega) ?_
          intro v1 wn o1 bn
          replace kW := kW.trans (bn.mono kW.size)
          refine hK.out _ _ ?_ (fun hHeld => ?_)
          · exact kW
          clear hK K
          try simp only [Act.put, List.setIfInBounds_toArray, List.set_cons_zero, List.set_cons_succ]
          refine wpAnyH_ready (rs := [6]) (by kernel_rfl) (by simp) ?_
          refine AllReadyH.cons (by simp only [List.getElem?_toArray, List.getElem?_cons_succ, List.getElem?_cons_zero]; rfl) (fun K hK => ?_) AllReadyH.nil
          go_simp
          replace kW := kb_alloc kW (Nat.le_refl _) (.cells #[.int .u8 (d : Nat)] 5)
          replace o1 := own_alloc o1 (.cells #[.int .u8 (d : Nat)] 5)
          refine hK.out _ _ ?_ (fun hHeld => ?_)
          · exact kW
          clear hK K
          try simp only [Act.put, List.setIfInBounds_toArray, List.set_cons_zero, List.set_cons_succ]
          replace o1 := own_lower bs o1
          refine wpAnyH_ready (rs := [7]) (by kernel_rfl) (by simp) ?_
          refine AllReadyH.cons (by simp only [List.getElem?_toArray, List.getElem?_cons_succ, List.getElem?_cons_zero]; rfl) (fun K hK => ?_) AllReadyH.nil
          refine step_append_lies _ (by rfl) _ _ _ (by rfl) wr.heap.size 5 i0 _ 1 1 Try.underlying49 Hi.out.1 Hi.out.2.1 Hi.out.2.2.1 Hi.out.2.2.2 rfl (by omega) _ (digs R).length _ (by rfl) o1 ⟨wn.heap.size, 0, none⟩ 1 1 (ints [d]) (by rfl) rfl (news_one (heap_new wn _)) (ints_one _) (by omega) (by unfold maxLen; omega) (by omega) kW.size _ rfl ?_
          intro g2 cap2 w3 o3 hgrow hat hlt3
          have k3 : Below wr.heap.size wr w3 := kW.grown hgrow kW.size (own_ge o1)
          rw [← ints_app] at o3
          have d3 := DRc.of (DR.own o3) (own_ge o3 g2 rfl)
          clear o1 o3 hgrow hat hlt3 kW
          refine hK.out _ _ ?_ (fun hHeld => ?_)
          · exact k3
          clear hK K
          try simp only [Act.put, List.setIfInBounds_toArray, List.set_cons_zero, List.set_cons_succ]
          refine wpAnyH_ready (rs := [8]) (by kernel_rfl) (by simp) ?_
          refine AllReadyH.cons (by simp only [List.getElem?_toArray, List.getElem?_cons_succ, List.getElem?_cons_zero]; rfl) (fun K hK => ?_) AllReadyH.nil
          try go_simp
          refine (htr.out _ _ d3).mono ?_; rintro e w4 ⟨v4, rfl, d4, rfl⟩
          try go_wp2_with fail
          refine hK.out _ _ ?_ (fun hHeld => ?_)
          · exact k3
          clear hK K
          try simp only [Act.put, List.setIfInBounds_toArray, List.set_cons_zero, List.set_cons_succ]
          refine wpAnyH_take (i := 9) (v := ?_) (by simp only [List.getElem?_toArray, List.getElem?_cons_succ, List.getElem?_cons_zero]; rfl) (by kernel_rfl) (by kernel_rfl) (by kernel_rfl) (fun _ _ _ h => h) (Or.inl ⟨by rfl, ?_⟩) hHeld ?_
          rotate_left
          · intro x hSw; (try dsimp only at hSw); first | (go_simp; done) | (go_simp; with_reducible rfl)
          try simp only [Act.put, List.setIfInBounds_toArray, List.set_cons_zero, List.set_cons_succ]
          refine wpAnyH_done (by kernel_rfl) ?_ _
          refine NoPanic.normal ?_
          go_wp2_with fail
          go_meet
          exact ⟨d4, k3⟩
        refine AllReadyH.cons (by simp only [List.getElem?_toArray, List.getElem?_cons_succ, List.getElem?_cons_zero]; rfl) (fun K hK => ?_) AllReadyH.nil
        have bs := kW.size
        go_simp
        replace kW := kb_alloc kW (Nat.le_refl _) (.cells #[.int .u8 (d : Nat)] 5)
        refine hK.out _ _ ?_ (fun hHeld => ?_)
        · exact kW
        clear hK K
        try simp only [Act.put, List.setIfInBounds_toArray, List.set_cons_zero, List.set_cons_succ]
        have hnw := heap_new qw (.cells #[.int .u8 (d : Nat)] 5)
        have hlq : qw.heap.size < (qw.alloc (.cells #[.int .u8 (d : Nat)] 5)).heap.size := by simp
        obtain ⟨qv, hcur⟩ : ∃ uu, uu = qw.alloc (.cells #[.int .u8 (d : Nat)] 5) := ⟨_, rfl⟩
        rw [← hcur] at kW hHeld hnw hlq ⊢
        clear hcur
        have bs2 := kW.size
        refine wpAnyH_ready (rs := [1]) (by kernel_rfl) (by simp) ?_
        refine AllReadyH.cons (by simp only [List.getElem?_toArray, List.getElem?_cons_succ, List.getElem?_cons_zero]; rfl) (fun K hK => ?_) AllReadyH.nil
        refine step_append_row (by rfl) _ _ (by rfl) (digs R) (by rfl) (by exact kR.below kW) (by omega) ?_
        intro v1 wn o1 bn
        replace kW := kW.trans (bn.mono kW.size)
        replace hnw := (bn.block _ hlq).trans hnw
        replace o1 := own_lower bs2 o1
        refine hK.out _ _ ?_ (fun hHeld => ?_)
        · exact kW
        clear hK K
        try simp only [Act.put, List.setIfInBounds_toArray, List.set_cons_zero, List.set_cons_succ]
        refine wpAnyH_ready (rs := [7]) (by kernel_rfl) (by simp) ?_
        refine AllReadyH.cons (by simp only [List.getElem?_toArray, List.getElem?_cons_succ, List.getElem?_cons_zero]; rfl) (fun K hK => ?_) AllReadyH.nil
        refine step_append_lies _ (by rfl) _ _ _ (by rfl) wr.heap.size 5 i0 _ 1 1 Try.underlying49 Hi.out.1 Hi.out.2.1 Hi.out.2.2.1 Hi.out.2.2.2 rfl (by omega) _ (digs R).length _ (by rfl) o1 ⟨qw.heap.size, 0, none⟩ 1 1 (ints [d]) (by rfl) rfl (news_one hnw) (ints_one _) (by omega) (by unfold maxLen; omega) (by omega) kW.size _ rfl ?_
        intro g2 cap2 w3 o3 hgrow hat hlt3
        have k3 : Below wr.heap.size wr w3 := kW.grown hgrow kW.size (own_ge o1)
        rw [← ints_app] at o3
        have d3 := DRc.of (DR.own o3) (own_ge o3 g2 rfl)
        clear o1 o3 hgrow hat hlt3 kW
        refine hK.out _ _ ?_ (fun hHeld => ?_)
        · exact k3
        clear hK K
        try simp only [Act.put, List.setIfInBounds_toArray, List.set_cons_zero, List.set_cons_succ]
        refine wpAnyH_ready (rs := [8]) (by kernel_rfl) (by simp) ?_
        refine AllReadyH.cons (by simp only [List.getElem?_toArray, List.getElem?_cons_succ, List.getElem?_cons_zero]; rfl) (fun K hK => ?_) AllReadyH.nil
        try go_simp
        refine (htr.out _ _ d3).mono ?_; rintro e w4 ⟨v4, rfl, d4, rfl⟩
        try go_wp2_with fail
        refine hK.out _ _ ?_ (fun hHeld => ?_)
        · exact k3
        clear hK K
        try simp only [Act.put, List.setIfInBounds_toArray, List.set_cons_zero, List.set_cons_succ]
        refine wpAnyH_take (i := 9) (v := ?_) (by simp only [List.getElem?_toArray, List.getElem?_cons_succ, List.getElem?_cons_zero]; rfl) (by kernel_rfl) (by kernel_rfl) (by kernel_rfl) (fun _ _ _ h => h) (Or.inl ⟨by rfl, ?_⟩) hHeld ?_
        rotate_left
        · intro x hSw; (try dsimp only at hSw); first | (go_simp; done) | (go_simp; with_reducible rfl)
        try simp only [Act.put, List.setIfInBounds_toArray, List.set_cons_zero, List.set_cons_succ]
        refine wpAnyH_done (by kernel_rfl) ?_ _
        refine NoPanic.normal ?_
        go_wp2_with fail
        go_meet
        exact ⟨d4, k3⟩
      case rest =>
        obtain ⟨d4, k3⟩ := hcut
        have hlt6 := Lib.hid (own_lt HO.out)
        have HO2 := Lib.hid (own_below HO.out k3)
        have HB2 := Lib.hid (HB.out.trans (k3.mono HB.out.size))
        have hsz3 := k3.size
        have H5 := Lib.hid d4
        obtain ⟨M, hM⟩ : ∃ M, M = wr.heap.size := ⟨_, rfl⟩
        rw [← hM] at hlt6 H5 hsz3
        obtain ⟨Q, hQ⟩ : ∃ Q, Q = N / y := ⟨_, rfl⟩
        rw [← hQ] at hds1 hQ9
        have Hend : Hid (∀ k, k ≤ Q → N - k * y < y → k = Q ∧ N - k * y = N % y) := fun k a b => by rw [hQ] at a ⊢; exact inner_end Hy.out.1 a b
        have Hmore : Hid (∀ k, ¬ N - k * y < y → k + 1 ≤ Q ∧ N - k * y - y = N - (k + 1) * y) := fun k b => by rw [hQ]; exact inner_more Hy.out.1 b
        clear kR htr HO HB d4 k3 hQ hM hlta2 eca2
        go_wp2_with fail
        go_loopw [7, 9] (fun s7 s9 wz => ∃ k : Nat, k ≤ Q ∧ s9 = .int .u8 (k : Nat) ∧ Hid (Below wc.heap.size wc wz ∧ DRc M wz s7 (digs (N - k * y)))) (fun _ s9 _ => Q - (intOf s9).toNat)
        case atStart => exact ⟨0, Nat.zero_le _, rfl, Below.refl _ _, by rw [Nat.zero_mul, Nat.sub_zero]; exact H5.out⟩
        case round =>
          obtain ⟨k, hkQ, rfl, Hk⟩ := hrel
          obtain ⟨kb, kd⟩ := Hk.out
          have hBz := HB2.out.trans (kb.mono HB2.out.size)
          have du := Hu.out.below hBz
          by_cases hlty : N - k * y < y
          · obtain ⟨hkQe, hmod⟩ := Hend.out k hkQ hlty
            have hc := Lib.hid (rcompare_lt hlty _ _ _ kd.dr du)
            subst hkQe
            rw [hmod] at kd
            have Kd := Lib.hid kd
            have Kb := Lib.hid kb
            have HBz := Lib.hid hBz
            clear hmod hlty Hend Hmore kd kb hBz du Hk H5
            go_wp2_with fail
            refine hc.out.mono ?_; rintro e w6 ⟨rfl, b6⟩
            have kd6 := Kd.out.below b6
            have B6 := HBz.out.trans (b6.mono HBz.out.size)
            have O6 := own_below (own_below HO2.out Kb.out) b6
            have hbs := B6.size
            have Kd6 := Lib.hid kd6
            have HB6 := Lib.hid B6
            have HO6 := Lib.hid O6
            have hnews := Lib.hid (news_one (heap_new w6 (.cells #[.int .u8 (k : Nat)] 5)))
            clear hc b6 kd6 B6 O6 Kd Kb HBz HO2 HB2
            go_wp2_with (at_builtin; refine wpList_append_lies _ rfl _ _ _ (by rfl) w.heap.size 5 i0 _ 1 1 Try.underlying49 Hi.out.1 Hi.out.2.1 Hi.out.2.2.1 Hi.out.2.2.2 rfl (by omega) _ i _ (by rfl) (own_alloc HO6.out _) ⟨w6.heap.size, 0, none⟩ 1 1 (ints [k]) (by rfl) rfl hnews.out (ints_one _) (by omega) (by unfold maxLen; omega) (by omega) (by have := hbs; simp; omega) _ rfl ?_)
            intro g2 cap2 w7 hown7 hgrow hat hlt2
            have hB7 := Lib.hid ((kb_alloc HB6.out (Nat.le_refl _) (.cells #[.int .u8 (k : Nat)] 5)).grown hgrow (by have := hbs; simp; omega) (own_ge HO6.out))
            have hd7 := Lib.hid ((Kd6.out.below ((Below.refl w6.heap.size w6).alloc (Nat.le_refl _) (.cells #[.int .u8 (k : Nat)] 5))).keep hgrow.size (fun b hb hlt => hgrow.block b hlt (fun e => by have := hlt6.out b e.symm; omega)))
            have Hown7 := Lib.hid hown7
            clear hown7 hgrow hat hlt2 HB6 HO6 hnews Kd6 hlt6
            go_wp2_with fail
            go_roundw
            case rel =>
              refine ⟨i + 1, hlt, by go_num, hB7.out, by rw [hds2.out]; exact hd7.out.dr, ql ++ [k], by rw [List.length_append, hql]; rfl, fun e he => ?_, by rw [valN_snoc, hqv'.out, hds1.out], ?_⟩
              · rcases List.mem_append.1 he with h | h
                · exact hq9'.out e h
                · rw [List.mem_singleton.1 h]; exact hQ9
              · rw [ints_app]; exact Hown7.out
            case measure => simp [intOf]; omega
          · obtain ⟨hkQ2, hsub⟩ := Hmore.out k hlty
            obtain ⟨kk, hk0, hcc⟩ := rcompare_ge hlty
            have hc := Lib.hid (hcc _ _ _ kd.dr du)
            have hN8 := hN80.out
            have hyx : y ≤ N - k * y := by omega
            have hmi := Lib.hid (fun W (h : Below _ _ W) => rminus_from (N - k * y) y _ _ W (kd.dr.below h) (du.below h) (Nat.lt_of_le_of_lt (Nat.sub_le _ _) hN8) hyx)
            rw [hsub] at hmi
            have Kb := Lib.hid kb
            have hszz := kb.size
            have hwk : IntKind.u8.wrap ((k : Int) + 1) = (k : Int) + 1 := IntWalk.u8_in _ (by omega)
            clear hsub hlty Hend Hmore kd kb hBz du Hk H5 hcc hN8 hyx
            go_wp2_with fail
            refine hc.out.mono ?_; rintro e w6 ⟨rfl, b6⟩
            have B6 := Lib.hid b6
            have hs6 := b6.size
            clear hc b6
            go_wp2_with fail
            refine (hmi.out _ B6.out).mono ?_; rintro e w7 ⟨v7, rfl, d7, b7⟩
            have hB7 := Lib.hid (Kb.out.trans ((B6.out.trans (b7.mono B6.out.size)).mono Kb.out.size))
            have D7 := Lib.hid (d7.low (c' := M) (by omega))
            clear d7 b7 hmi B6 Kb
            go_wp2_with fail
            go_roundw
            case rel => exact ⟨k + 1, hkQ2, by go_num, hB7.out, D7.out⟩
            case measure => simp [intOf]; omega
    · obtain rfl : i = la := by omega
      obtain ⟨hB, hR, ql, hql, hq9, hqv, hO⟩ := H.out
      rw [Hpe2.out] at hR hqv
      have htr := Lib.hid (rtrim_calls ql _ wr (DR.own hO) (fun e he => Nat.le_trans (hq9 e he) (by omega)))
      rw [trimN_digs ql hq9, hqv] at htr
      have HR := Lib.hid (⟨hB, hR⟩ : _ ∧ _)
      clear H hB hR hql hq9 hqv hO
      go_wp2_with fail
      refine htr.out.mono ?_; rintro e w5 ⟨v5, rfl, d5, rfl⟩
      go_wp2_with fail
      go_ret2
      exact ⟨_, _, rfl, d5, HR.out.2, HR.out.1⟩

end Go.Proofs.Ytpciohnnnpgpiaa
