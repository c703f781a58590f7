/- The walk of the reference's family (layer 16). -/
import Derived.Test.YtgoibhbmndpgpaaGreatDoorRefClsB
import Derived.Test.YtgoibhbmndpgpaaGreatDoorBatP
set_option maxRecDepth 100000
set_option linter.unusedVariables false
set_option linter.unusedSimpArgs false
namespace Go.Proofs.YtgoibhbmndpgpaaGreatDoor
open Go.RowKit Go.Sort Dc
attribute [local go_sem ↓] Go.wp_at_zero Go.wp_at_succ

theorem Kl.fam_no {p : Int} {x : Fs} (h : Kl.hd p x.hd x.L.length = false) : Kl.fam p (fm x) = false := by
  unfold Kl.fam
  rw [show Kl.hd p (fm x).1 (fm x).2.length = false from by rw [show (fm x).2.length = x.L.length from by simp [fm, pts]]; exact h]; rfl

set_option maxHeartbeats 16000000 in
theorem rfam16_calls (p : Int) (h : Hd) (L : List Ps) (v : Value) (w : World) (hv : PtRow w v L) (hHd : HdIn h) :
    Calls Tryz.prog 20 #[.int .i64 p, famv h v] w fun e w' => e = .returned (.bool (Kl.fam p (fm ⟨h, v, L⟩))) ∧ Below w.heap.size w w' := by
  have k0 := kp_alloc (Below.refl w.heap.size w) (.cells (famc h v) 39)
  have F0 := FamAt.new w h v 39
  have HP := Lib.hid hv.2
  obtain ⟨A, cap, rfl, hlc, hcm, _, hrow⟩ := hv.1
  unfold maxLen at hcm
  have HR := Lib.hid hrow
  have HHN := Lib.hid hHd
  have hun := Lib.hid (fun W => runit_calls h W hHd.ln hHd.lu)
  have his := Lib.hid (fun W => risc_calls p 0 h.n W hHd.ln)
  have hfn := Lib.hid (fun (e : Kl.hd p h L.length = false) => Kl.fam_no (x := ⟨h, .slice A L.length cap, L⟩) e)
  obtain ⟨n, k, u, hh⟩ := h
  simp only at k0 F0 hun his

  have HF0 := Lib.hid F0
  have K0 := Lib.hid k0
  clear hrow hv F0 k0 hHd
  go_enter Tryz.func20, Tryz.ntmps20
  go_upto_region 2 with fail
  obtain ⟨W1, hW1⟩ : ∃ W, W = w.alloc (.cells #[.string (str n), .int .i64 k, .string (str u), .string (str hh), .slice A L.length cap] 39) := ⟨_, rfl⟩
  have HF1 : Hid (FamAt W1 w.heap.size ⟨n, k, u, hh⟩ (.slice A L.length cap)) := Lib.hid (by rw [hW1]; exact HF0.out)
  have K1 : Hid (Below w.heap.size w W1) := Lib.hid (by rw [hW1]; exact K0.out)
  rw [← hW1]
  clear hW1 HF0 K0
  go_wp2_with fail
  refine (rkinds_calls p W1).mono ?_; rintro e w2 ⟨⟨kv, rfl, hkv⟩, b2⟩
  have HF2 := Lib.hid (HF1.out.below b2)
  have K2 := Lib.hid (trans9 K1.out b2)
  obtain ⟨Ak, capk, rfl, hk1, hk2, hk3⟩ := hkv
  unfold maxLen at hk2
  have HRK := Lib.hid hk3
  obtain ⟨Q, hQ⟩ : ∃ Q, Q = Kl.kinds p := ⟨_, rfl⟩
  rw [← hQ] at HRK hk1 ⊢
  have HQ := Lib.hid hQ
  clear b2 HF1 K1 hk3 hQ
  obtain ⟨x0, x1, x2, x3, x4, xf, xl⟩ := HF2.out
  dsimp only at x0 x1 x2 x3 x4
  go_wp2_with fail
  go_loop [5, 13] (fun a s => ∃ i : Nat, i ≤ Q.length ∧ a = .bool ((Q.take i).contains k) ∧ s = .int .i64 (i : Nat)) (fun _ s => Q.length - (intOf s).toNat)
  case atStart => exact ⟨0, Nat.zero_le _, rfl, rfl⟩
  case round =>
    obtain ⟨i, hi, rfl, rfl⟩ := hrel
    by_cases hiq : i < Q.length
    · obtain ⟨bk, offk, rfl, hbk, hck⟩ := HRK.out (by omega)
      have hx := hck i _ (List.getElem?_eq_getElem hiq)
      have hct := Lib.hid (Kl.contains_take (k := k) (List.getElem?_eq_getElem hiq))
      generalize Q[i] = qi at *
      clear hck
      cases hc0 : (Q.take i).contains k
      · rw [hc0] at hct
        by_cases e : qi = k
        · have e1 : (qi == k) = true := beq_iff_eq.2 e
          have hct2 := Lib.hid (show (Q.take (i + 1)).contains k = true by rw [hct.out, e1]; rfl)
          clear e hct hc0
          go_wp2
          go_round
          case rel => exact ⟨i + 1, hiq, by rw [hct2.out], by go_num⟩
          case measure => simp [intOf]; omega
        · have e1 : (qi == k) = false := beq_eq_false_iff_ne.2 e
          have hct2 := Lib.hid (show (Q.take (i + 1)).contains k = false by rw [hct.out, e1]; rfl)
          clear e hct hc0
          go_wp2
          go_round
          case rel => exact ⟨i + 1, hiq, by rw [hct2.out], by go_num⟩
          case measure => simp [intOf]; omega
      · rw [hc0] at hct
        have hct2 := Lib.hid (show (Q.take (i + 1)).contains k = true by rw [hct.out]; rfl)
        clear hct hc0
        go_wp2
        go_round
        case rel => exact ⟨i + 1, hiq, by rw [hct2.out], by go_num⟩
        case measure => simp [intOf]; omega
    · have hall : Q.take i = Q := List.take_of_length_le (by omega)
      rw [hall]
      have HB := K2
      have HCQ := Lib.hid (show Q.contains k = (Kl.kinds p).contains k from by rw [HQ.out])
      clear hall HRK hk1 hk2 HQ
      generalize w2 = w3 at *
      cases hI : Q.contains k
      · have hr := Lib.hid (hfn.out (by unfold Kl.hd; simp only; rw [← HCQ.out, hI]; rfl))
        clear hfn hI HCQ
        go_wp2
        go_ret
        exact ⟨by rw [hr.out]; rfl, HB.out⟩
      rw [hI] at HCQ
      clear hI
      cases hN : Ch.isName p 0 n
      · rw [hN] at his
        have hr := Lib.hid (hfn.out (by unfold Kl.hd; simp only; rw [hN, Bool.and_false]; rfl))
        clear hfn hN HCQ
        go_wp2_with fail
        refine (his.out _).mono ?_; rintro e w1 ⟨rfl, rfl⟩
        go_wp2
        go_ret
        exact ⟨by rw [hr.out]; rfl, HB.out⟩
      rw [hN] at his
      by_cases p1 : p = 1
      · have d1 : (p == 1) = true := beq_iff_eq.2 p1
        have d1' : (p != 1) = false := by rw [bne, d1]; rfl
        cases hU : Kl.unit n u
        · rw [hU] at hun
          have hr := Lib.hid (hfn.out (by unfold Kl.hd; simp only; rw [if_pos p1, hU, Bool.and_false]))
          clear hfn HCQ hN p1 hU
          go_wp2_with fail
          refine (his.out _).mono ?_; rintro e w1 ⟨rfl, rfl⟩
          go_wp2_with fail
          refine (hun.out _).mono ?_; rintro e w4 ⟨rfl, b4⟩
          have HB4 := Lib.hid (trans9 HB.out b4)
          clear b4 HB x0 x1 x2 x3 x4 xf xl
          go_wp2
          go_ret
          exact ⟨by rw [hr.out]; rfl, HB4.out⟩
        · rw [hU] at hun
          have HHD := Lib.hid (show Kl.hd p ⟨n, k, u, hh⟩ (pts L).length = true from by unfold Kl.hd; simp only; rw [if_pos p1, hU, hN, ← HCQ.out]; rfl)
          clear hfn HCQ hN p1 hU
          go_wp2_with fail
          refine (his.out _).mono ?_; rintro e w1 ⟨rfl, rfl⟩
          go_wp2_with fail
          refine (hun.out _).mono ?_; rintro e w4 ⟨rfl, b4⟩
          have HB4 := Lib.hid (trans9 HB.out b4)
          have HF3 := Lib.hid (HF2.out.below b4)
          clear b4 HB HF2 x0 x1 x2 x3 x4 xf xl
          have HB := HB4
          clear HB4
          obtain ⟨x0, x1, x2, x3, x4, xf, xl⟩ := HF3.out
          dsimp only at x0 x1 x2 x3 x4
          generalize w4 = w3 at *
          go_upto_region 9 with fail
          clear x0 x1 x2 x3 x4 xf xl
          generalize w3 = W3 at *
          go_wp2_with fail
          go_loopw [8] (fun s wr => ∃ j : Nat, j ≤ L.length ∧ s = .int .i64 (j : Nat) ∧ Hid (∀ y ∈ (pts L).take j, Kl.pt p y = true) ∧ Below W3.heap.size W3 wr) (fun s _ => L.length - (intOf s).toNat)
          case atStart => exact ⟨0, Nat.zero_le _, rfl, Lib.hid (fun y hy => by cases hy), Below.refl _ _⟩
          case round =>
            obtain ⟨j, hj, rfl, H, hb⟩ := hrel
            obtain ⟨x0, x1, x2, x3, x4, xf, xl⟩ := HF3.out.below hb
            dsimp only at x0 x1 x2 x3 x4
            by_cases hjl : j < L.length
            · obtain ⟨b1, off1, rfl, hbs1, hc1⟩ := HR.out (by omega)
              obtain ⟨y, hy, hyp⟩ := ps_get hjl
              have hmy := List.mem_of_getElem? hy
              have hyi := HP.out y hmy
              obtain ⟨e0, e1, e2, e3, e4, e5, e6, e7, e8⟩ := pr_cells hc1 hy
              have hno := Lib.hid (fun (h : Kl.pt p y.2 = false) => show Kl.fam p (fm ⟨⟨n, k, u, hh⟩, .slice (some ⟨b1, off1, none⟩) L.length cap, L⟩) = false from by
                unfold Kl.fam
                rw [show (fm ⟨⟨n, k, u, hh⟩, .slice (some ⟨b1, off1, none⟩) L.length cap, L⟩).2.all (Kl.pt p) = false from Lg.all_no (List.mem_of_getElem? hyp) h, Bool.and_false])
              have hnx := Lib.hid (fun (h : Kl.pt p y.2 = true) => Lg.all_take (P := fun y => Kl.pt p y = true) H.out hyp h)
              obtain ⟨A2, cap2, hy1, hlc2, hcm2, _, hrow2⟩ := hyi.1
              have hR1 : ∀ o u, w.cell? ⟨b1, o, none⟩ = some u → wr.cell? ⟨b1, o, none⟩ = some u := fun o u hu => ((trans9 HB.out hb).cell (p := ⟨b1, o, none⟩) hbs1).trans hu
              have s0 := hR1 _ _ e0
              have s1 := hR1 _ _ e1
              have s2 := hR1 _ _ e2
              have s3 := hR1 _ _ e3
              have s4 := hR1 _ _ e4
              have s5 := hR1 _ _ e5
              have s6 := hR1 _ _ e6
              have s7 := hR1 _ _ e7
              have s8 := hR1 _ _ e8
              have ka := kp_alloc (Below.refl wr.heap.size wr) (.cells (ptc y.1 y.2) 46)
              have PA := PtAt.new wr y.1 y.2 46
              have hl := Lib.hid (fun W (hW : Below w.heap.size w W) => rlabv_calls p y.2.l y.1 W (hyi.1.below hW) hyi.2.fit)
              have hKw0 := trans9 hb ka
              obtain ⟨yv, ⟨ls, ro, inf, bm, bs, mm, ss, td, ti⟩⟩ := y
              simp only at hy1 hlc2 s0 s1 s2 s3 s4 s5 s6 s7 s8 ka PA hno hnx hl hKw0
              subst hy1
              have HPA := Lib.hid PA
              have HKA := Lib.hid hKw0
              have htm : IntKind.i64.wrap (ti.tmod 1000) = ti.tmod 1000 := IntWalk.i64_in _ (by have h1 := hyi.2.t1; have h2 := hyi.2.t2; simp only at h1 h2; have h3 := Int.tmod_lt_of_pos ti (show (0 : Int) < 1000 by omega); have h4 := Int.lt_tmod_of_pos ti (show (0 : Int) < 1000 by omega); omega)
              clear hc1 e0 e1 e2 e3 e4 e5 e6 e7 e8 hR1 hy hyp hmy hyi hrow2 ka PA hKw0
              go_upto_region 13 with fail
              obtain ⟨W4, hW4⟩ : ∃ W, W = wr.alloc (.cells #[.slice A2 ls.length cap2, .int .i64 ro, .bool inf, .int .i64 bm, .int .i64 bs, .int .i64 mm, .int .i64 ss, .bool td, .int .i64 ti] 46) := ⟨_, rfl⟩
              have HP4 : Hid (PtAt W4 wr.heap.size (.slice A2 ls.length cap2) ⟨ls, ro, inf, bm, bs, mm, ss, td, ti⟩) := Lib.hid (by rw [hW4]; exact HPA.out)
              have HK4 : Hid (Below W3.heap.size W3 W4) := Lib.hid (by rw [hW4]; exact HKA.out)
              rw [← hW4]
              clear hW4 HPA HKA s0 s1 s2 s3 s4 s5 s6 s7 s8 x0 x1 x2 x3 x4 xf xl
              have hK0 := trans9 HB.out HK4.out
              have hKw := Lib.hid hK0
              clear hK0
              replace hl := Lib.hid (fun W (e : W4 = W) => hl.out W (by rw [← e]; exact hKw.out))
              obtain ⟨y0, y1, y2, y3, y4, y5, y6, y7, y8, yf, yl⟩ := HP4.out
              dsimp only at y0 y1 y2 y3 y4 y5 y6 y7 y8
              cases hL : Kl.labs p ls
              · rw [hL] at hl
                have hr := Lib.hid (hno.out (by unfold Kl.pt; simp only; rw [hL]; rfl))
                clear hno hnx hL
                try clear r
                try clear p3
                try clear p4
                go_wp2_with fail
                refine (hl.out _ rfl).mono ?_; rintro e w6 ⟨rfl, rfl⟩
                go_wp2
                go_ret
                exact ⟨by rw [hr.out]; rfl, hKw.out⟩
              rw [hL] at hl
              by_cases p3 : p = 3
              · have d3 : (p == 3) = true := beq_iff_eq.2 p3
                have d4 : (p == 4) = false := beq_eq_false_iff_ne.2 (by omega)
                cases td with
                | false =>
                  have hr := Lib.hid (hno.out (by unfold Kl.pt; simp only; rw [hL, decide_eq_true p3]; rfl))
                  clear hno hnx hL
                  try clear r
                  try clear p3
                  try clear p4
                  go_wp2_with fail
                  refine (hl.out _ rfl).mono ?_; rintro e w6 ⟨rfl, rfl⟩
                  go_wp2
                  go_ret
                  exact ⟨by rw [hr.out]; rfl, hKw.out⟩
                | true =>
                  by_cases r : ti.tmod 1000 = 0
                  · have r0 : (ti.tmod 1000 != 0) = false := by simp [r]
                    have hr := Lib.hid (hnx.out (by unfold Kl.pt; simp only; rw [hL, decide_eq_true r, decide_eq_false (show ¬ p = 4 by omega)]; simp))
                    clear hno hnx hL
                    try clear r
                    try clear p3
                    try clear p4
                    go_wp2_with fail
                    refine (hl.out _ rfl).mono ?_; rintro e w6 ⟨rfl, rfl⟩
                    go_wp2
                    go_roundw
                    case rel => exact ⟨j + 1, hjl, by go_num, hr.out, HK4.out⟩
                    case measure => simp [intOf]; omega
                  · have r0 : (ti.tmod 1000 != 0) = true := by simp [r]
                    have hr := Lib.hid (hno.out (by unfold Kl.pt; simp only; rw [hL, decide_eq_true p3, decide_eq_false r]; rfl))
                    clear hno hnx hL
                    try clear r
                    try clear p3
                    try clear p4
                    go_wp2_with fail
                    refine (hl.out _ rfl).mono ?_; rintro e w6 ⟨rfl, rfl⟩
                    go_wp2
                    go_ret
                    exact ⟨by rw [hr.out]; rfl, hKw.out⟩
              have d3 : (p == 3) = false := beq_eq_false_iff_ne.2 p3
              by_cases p4 : p = 4
              · have d4 : (p == 4) = true := beq_iff_eq.2 p4
                cases td with
                | true =>
                  have hr := Lib.hid (hno.out (by unfold Kl.pt; simp only; rw [hL, decide_eq_true p4, decide_eq_false p3]; simp))
                  clear hno hnx hL
                  try clear r
                  try clear p3
                  try clear p4
                  go_wp2_with fail
                  refine (hl.out _ rfl).mono ?_; rintro e w6 ⟨rfl, rfl⟩
                  go_wp2
                  go_ret
                  exact ⟨by rw [hr.out]; rfl, hKw.out⟩
                | false =>
                  by_cases r : mm < 0
                  · have r0 : decide (mm < 0) = true := decide_eq_true r
                    have hr := Lib.hid (hno.out (by unfold Kl.pt; simp only; rw [hL, decide_eq_true p4, decide_eq_false p3, decide_eq_true r]; simp))
                    clear hno hnx hL
                    try clear r
                    try clear p3
                    try clear p4
                    go_wp2_with fail
                    refine (hl.out _ rfl).mono ?_; rintro e w6 ⟨rfl, rfl⟩
                    go_wp2
                    go_ret
                    exact ⟨by rw [hr.out]; rfl, hKw.out⟩
                  · have r0 : decide (mm < 0) = false := decide_eq_false r
                    have hr := Lib.hid (hnx.out (by unfold Kl.pt; simp only; rw [hL, decide_eq_false p3, decide_eq_false r]; simp))
                    clear hno hnx hL
                    try clear r
                    try clear p3
                    try clear p4
                    go_wp2_with fail
                    refine (hl.out _ rfl).mono ?_; rintro e w6 ⟨rfl, rfl⟩
                    go_wp2
                    go_roundw
                    case rel => exact ⟨j + 1, hjl, by go_num, hr.out, HK4.out⟩
                    case measure => simp [intOf]; omega
              have d4 : (p == 4) = false := beq_eq_false_iff_ne.2 p4
              have hr := Lib.hid (hnx.out (by unfold Kl.pt; simp only; rw [hL, decide_eq_false p3, decide_eq_false p4]; rfl))
              clear hno hnx hL
              try clear r
              try clear p3
              try clear p4
              go_wp2_with fail
              refine (hl.out _ rfl).mono ?_; rintro e w6 ⟨rfl, rfl⟩
              go_wp2
              go_roundw
              case rel => exact ⟨j + 1, hjl, by go_num, hr.out, HK4.out⟩
              case measure => simp [intOf]; omega
            · have hr := Lib.hid (show Kl.fam p (fm ⟨⟨n, k, u, hh⟩, .slice A L.length cap, L⟩) = true from by
                unfold Kl.fam
                rw [show (fm ⟨⟨n, k, u, hh⟩, .slice A L.length cap, L⟩).2.all (Kl.pt p) = true from Lg.all_yes (Lg.all_full H.out (by show (pts L).length ≤ j; simp [pts]; omega)), Bool.and_true]
                exact HHD.out)
              have hK9 := Lib.hid (trans9 HB.out hb)
              go_wp2
              go_ret
              exact ⟨by rw [hr.out]; rfl, hK9.out⟩
      have d1 : (p == 1) = false := beq_eq_false_iff_ne.2 p1
      have d1' : (p != 1) = true := by rw [bne, d1]; rfl
      clear hun
      have hif := Lib.hid (show (if p = 1 then Kl.unit n u else decide (u = []) && decide (hh = []) && !decide (L.length = 0)) = (decide (u = []) && decide (hh = []) && !decide (L.length = 0)) from if_neg p1)
      by_cases u0 : u = []
      rotate_left
      · have b0 : (u != []) = true := by simp [u0]
        have b00 : (u == []) = false := by simp [u0]
        have b01 : decide (u = []) = false := by simp [u0]
        have hr := Lib.hid (hfn.out (by unfold Kl.hd; simp only; rw [hif.out, decide_eq_false u0, Bool.false_and, Bool.false_and, Bool.and_false]))
        clear hfn HCQ hN p1 hif
        go_wp2_with fail
        refine (his.out _).mono ?_; rintro e w1 ⟨rfl, rfl⟩
        go_wp2
        go_ret
        exact ⟨by rw [hr.out]; rfl, HB.out⟩
      have b0 : (u != []) = false := by simp [u0]
      have b00 : (u == []) = true := by simp [u0]
      have b01 : decide (u = []) = true := by simp [u0]
      by_cases h0 : hh = []
      rotate_left
      · have b1 : (hh != []) = true := by simp [h0]
        have b10 : (hh == []) = false := by simp [h0]
        have b11 : decide (hh = []) = false := by simp [h0]
        have hr := Lib.hid (hfn.out (by unfold Kl.hd; simp only; rw [hif.out, decide_eq_false h0, Bool.and_false, Bool.false_and, Bool.and_false]))
        clear hfn HCQ hN p1 u0 h0 hif
        go_wp2_with fail
        refine (his.out _).mono ?_; rintro e w1 ⟨rfl, rfl⟩
        go_wp2
        go_ret
        exact ⟨by rw [hr.out]; rfl, HB.out⟩
      have b1 : (hh != []) = false := by simp [h0]
      have b10 : (hh == []) = true := by simp [h0]
      have b11 : decide (hh = []) = true := by simp [h0]
      by_cases l0 : L.length = 0
      · have e0 : (((L.length : Nat) : Int) == 0) = true := by simp [l0]
        have hr := Lib.hid (hfn.out (by unfold Kl.hd; simp only; rw [hif.out, decide_eq_true l0]; simp))
        clear hfn HCQ hN p1 u0 h0 hif l0
        go_wp2_with fail
        refine (his.out _).mono ?_; rintro e w1 ⟨rfl, rfl⟩
        go_wp2
        go_ret
        exact ⟨by rw [hr.out]; rfl, HB.out⟩
      have e0 : (((L.length : Nat) : Int) == 0) = false := by simp [l0]
      have HHD := Lib.hid (show Kl.hd p ⟨n, k, u, hh⟩ (pts L).length = true from by unfold Kl.hd; simp only; rw [if_neg p1, hN, ← HCQ.out, decide_eq_true u0, decide_eq_true h0, decide_eq_false (show ¬ (pts L).length = 0 by simpa [pts] using l0)]; rfl)
      clear hfn HCQ hN p1 u0 h0 hif l0
      go_wp2_with fail
      refine (his.out _).mono ?_; rintro e w1 ⟨rfl, rfl⟩
      have HF3 := HF2
      clear HF2
      go_upto_region 9 with fail
      clear x0 x1 x2 x3 x4 xf xl
      generalize w3 = W3 at *
      go_wp2_with fail
      go_loopw [8] (fun s wr => ∃ j : Nat, j ≤ L.length ∧ s = .int .i64 (j : Nat) ∧ Hid (∀ y ∈ (pts L).take j, Kl.pt p y = true) ∧ Below W3.heap.size W3 wr) (fun s _ => L.length - (intOf s).toNat)
      case atStart => exact ⟨0, Nat.zero_le _, rfl, Lib.hid (fun y hy => by cases hy), Below.refl _ _⟩
      case round =>
        obtain ⟨j, hj, rfl, H, hb⟩ := hrel
        obtain ⟨x0, x1, x2, x3, x4, xf, xl⟩ := HF3.out.below hb
        dsimp only at x0 x1 x2 x3 x4
        by_cases hjl : j < L.length
        · obtain ⟨b1, off1, rfl, hbs1, hc1⟩ := HR.out (by omega)
          obtain ⟨y, hy, hyp⟩ := ps_get hjl
          have hmy := List.mem_of_getElem? hy
          have hyi := HP.out y hmy
          obtain ⟨e0, e1, e2, e3, e4, e5, e6, e7, e8⟩ := pr_cells hc1 hy
          have hno := Lib.hid (fun (h : Kl.pt p y.2 = false) => show Kl.fam p (fm ⟨⟨n, k, u, hh⟩, .slice (some ⟨b1, off1, none⟩) L.length cap, L⟩) = false from by
            unfold Kl.fam
            rw [show (fm ⟨⟨n, k, u, hh⟩, .slice (some ⟨b1, off1, none⟩) L.length cap, L⟩).2.all (Kl.pt p) = false from Lg.all_no (List.mem_of_getElem? hyp) h, Bool.and_false])
          have hnx := Lib.hid (fun (h : Kl.pt p y.2 = true) => Lg.all_take (P := fun y => Kl.pt p y = true) H.out hyp h)
          obtain ⟨A2, cap2, hy1, hlc2, hcm2, _, hrow2⟩ := hyi.1
          have hR1 : ∀ o u, w.cell? ⟨b1, o, none⟩ = some u → wr.cell? ⟨b1, o, none⟩ = some u := fun o u hu => ((trans9 HB.out hb).cell (p := ⟨b1, o, none⟩) hbs1).trans hu
          have s0 := hR1 _ _ e0
          have s1 := hR1 _ _ e1
          have s2 := hR1 _ _ e2
          have s3 := hR1 _ _ e3
          have s4 := hR1 _ _ e4
          have s5 := hR1 _ _ e5
          have s6 := hR1 _ _ e6
          have s7 := hR1 _ _ e7
          have s8 := hR1 _ _ e8
          have ka := kp_alloc (Below.refl wr.heap.size wr) (.cells (ptc y.1 y.2) 46)
          have PA := PtAt.new wr y.1 y.2 46
          have hl := Lib.hid (fun W (hW : Below w.heap.size w W) => rlabv_calls p y.2.l y.1 W (hyi.1.below hW) hyi.2.fit)
          have hKw0 := trans9 hb ka
          obtain ⟨yv, ⟨ls, ro, inf, bm, bs, mm, ss, td, ti⟩⟩ := y
          simp only at hy1 hlc2 s0 s1 s2 s3 s4 s5 s6 s7 s8 ka PA hno hnx hl hKw0
          subst hy1
          have HPA := Lib.hid PA
          have HKA := Lib.hid hKw0
          have htm : IntKind.i64.wrap (ti.tmod 1000) = ti.tmod 1000 := IntWalk.i64_in _ (by have h1 := hyi.2.t1; have h2 := hyi.2.t2; simp only at h1 h2; have h3 := Int.tmod_lt_of_pos ti (show (0 : Int) < 1000 by omega); have h4 := Int.lt_tmod_of_pos ti (show (0 : Int) < 1000 by omega); omega)
          clear hc1 e0 e1 e2 e3 e4 e5 e6 e7 e8 hR1 hy hyp hmy hyi hrow2 ka PA hKw0
          go_upto_region 13 with fail
          obtain ⟨W4, hW4⟩ : ∃ W, W = wr.alloc (.cells #[.slice A2 ls.length cap2, .int .i64 ro, .bool inf, .int .i64 bm, .int .i64 bs, .int .i64 mm, .int .i64 ss, .bool td, .int .i64 ti] 46) := ⟨_, rfl⟩
          have HP4 : Hid (PtAt W4 wr.heap.size (.slice A2 ls.length cap2) ⟨ls, ro, inf, bm, bs, mm, ss, td, ti⟩) := Lib.hid (by rw [hW4]; exact HPA.out)
          have HK4 : Hid (Below W3.heap.size W3 W4) := Lib.hid (by rw [hW4]; exact HKA.out)
          rw [← hW4]
          clear hW4 HPA HKA s0 s1 s2 s3 s4 s5 s6 s7 s8 x0 x1 x2 x3 x4 xf xl
          have hK0 := trans9 HB.out HK4.out
          have hKw := Lib.hid hK0
          clear hK0
          replace hl := Lib.hid (fun W (e : W4 = W) => hl.out W (by rw [← e]; exact hKw.out))
          obtain ⟨y0, y1, y2, y3, y4, y5, y6, y7, y8, yf, yl⟩ := HP4.out
          dsimp only at y0 y1 y2 y3 y4 y5 y6 y7 y8
          cases hL : Kl.labs p ls
          · rw [hL] at hl
            have hr := Lib.hid (hno.out (by unfold Kl.pt; simp only; rw [hL]; rfl))
            clear hno hnx hL
            try clear r
            try clear p3
            try clear p4
            go_wp2_with fail
            refine (hl.out _ rfl).mono ?_; rintro e w6 ⟨rfl, rfl⟩
            go_wp2
            go_ret
            exact ⟨by rw [hr.out]; rfl, hKw.out⟩
          rw [hL] at hl
          by_cases p3 : p = 3
          · have d3 : (p == 3) = true := beq_iff_eq.2 p3
            have d4 : (p == 4) = false := beq_eq_false_iff_ne.2 (by omega)
            cases td with
            | false =>
              have hr := Lib.hid (hno.out (by unfold Kl.pt; simp only; rw [hL, decide_eq_true p3]; rfl))
              clear hno hnx hL
              try clear r
              try clear p3
              try clear p4
              go_wp2_with fail
              refine (hl.out _ rfl).mono ?_; rintro e w6 ⟨rfl, rfl⟩
              go_wp2
              go_ret
              exact ⟨by rw [hr.out]; rfl, hKw.out⟩
            | true =>
              by_cases r : ti.tmod 1000 = 0
              · have r0 : (ti.tmod 1000 != 0) = false := by simp [r]
                have hr := Lib.hid (hnx.out (by unfold Kl.pt; simp only; rw [hL, decide_eq_true r, decide_eq_false (show ¬ p = 4 by omega)]; simp))
                clear hno hnx hL
                try clear r
                try clear p3
                try clear p4
                go_wp2_with fail
                refine (hl.out _ rfl).mono ?_; rintro e w6 ⟨rfl, rfl⟩
                go_wp2
                go_roundw
                case rel => exact ⟨j + 1, hjl, by go_num, hr.out, HK4.out⟩
                case measure => simp [intOf]; omega
              · have r0 : (ti.tmod 1000 != 0) = true := by simp [r]
                have hr := Lib.hid (hno.out (by unfold Kl.pt; simp only; rw [hL, decide_eq_true p3, decide_eq_false r]; rfl))
                clear hno hnx hL
                try clear r
                try clear p3
                try clear p4
                go_wp2_with fail
                refine (hl.out _ rfl).mono ?_; rintro e w6 ⟨rfl, rfl⟩
                go_wp2
                go_ret
                exact ⟨by rw [hr.out]; rfl, hKw.out⟩
          have d3 : (p == 3) = false := beq_eq_false_iff_ne.2 p3
          by_cases p4 : p = 4
          · have d4 : (p == 4) = true := beq_iff_eq.2 p4
            cases td with
            | true =>
              have hr := Lib.hid (hno.out (by unfold Kl.pt; simp only; rw [hL, decide_eq_true p4, decide_eq_false p3]; simp))
              clear hno hnx hL
              try clear r
              try clear p3
              try clear p4
              go_wp2_with fail
              refine (hl.out _ rfl).mono ?_; rintro e w6 ⟨rfl, rfl⟩
              go_wp2
              go_ret
              exact ⟨by rw [hr.out]; rfl, hKw.out⟩
            | false =>
              by_cases r : mm < 0
              · have r0 : decide (mm < 0) = true := decide_eq_true r
                have hr := Lib.hid (hno.out (by unfold Kl.pt; simp only; rw [hL, decide_eq_true p4, decide_eq_false p3, decide_eq_true r]; simp))
                clear hno hnx hL
                try clear r
                try clear p3
                try clear p4
                go_wp2_with fail
                refine (hl.out _ rfl).mono ?_; rintro e w6 ⟨rfl, rfl⟩
                go_wp2
                go_ret
                exact ⟨by rw [hr.out]; rfl, hKw.out⟩
              · have r0 : decide (mm < 0) = false := decide_eq_false r
                have hr := Lib.hid (hnx.out (by unfold Kl.pt; simp only; rw [hL, decide_eq_false p3, decide_eq_false r]; simp))
                clear hno hnx hL
                try clear r
                try clear p3
                try clear p4
                go_wp2_with fail
                refine (hl.out _ rfl).mono ?_; rintro e w6 ⟨rfl, rfl⟩
                go_wp2
                go_roundw
                case rel => exact ⟨j + 1, hjl, by go_num, hr.out, HK4.out⟩
                case measure => simp [intOf]; omega
          have d4 : (p == 4) = false := beq_eq_false_iff_ne.2 p4
          have hr := Lib.hid (hnx.out (by unfold Kl.pt; simp only; rw [hL, decide_eq_false p3, decide_eq_false p4]; rfl))
          clear hno hnx hL
          try clear r
          try clear p3
          try clear p4
          go_wp2_with fail
          refine (hl.out _ rfl).mono ?_; rintro e w6 ⟨rfl, rfl⟩
          go_wp2
          go_roundw
          case rel => exact ⟨j + 1, hjl, by go_num, hr.out, HK4.out⟩
          case measure => simp [intOf]; omega
        · have hr := Lib.hid (show Kl.fam p (fm ⟨⟨n, k, u, hh⟩, .slice A L.length cap, L⟩) = true from by
            unfold Kl.fam
            rw [show (fm ⟨⟨n, k, u, hh⟩, .slice A L.length cap, L⟩).2.all (Kl.pt p) = true from Lg.all_yes (Lg.all_full H.out (by show (pts L).length ≤ j; simp [pts]; omega)), Bool.and_true]
            exact HHD.out)
          have hK9 := Lib.hid (trans9 HB.out hb)
          go_wp2
          go_ret
          exact ⟨by rw [hr.out]; rfl, hK9.out⟩

end Go.Proofs.YtgoibhbmndpgpaaGreatDoor
