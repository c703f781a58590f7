/- The walk of Scan's Number (layer 17, the reference). -/
import Derived.Test.YthniemoganoapaaDoorRefOwC
set_option maxRecDepth 100000
set_option linter.unusedVariables false
set_option linter.unusedSimpArgs false
namespace Go.Proofs.YthniemoganoapaaDoor
open Go.RowKit
attribute [local go_sem ↓] Go.wp_at_zero Go.wp_at_succ

namespace Ow
theorem hd_is {l : List UInt8} {c : UInt8} (hc : 0 < c.toNat) : (hd l == (c.toNat : Int)) = decide (l.head? = some c) := by
  cases l with
  | nil => rw [show hd [] = 0 from rfl]; simp; omega
  | cons d l =>
    rw [show hd (d :: l) = (d.toNat : Int) from rfl, Bool.eq_iff_iff]
    simp only [beq_iff_eq, decide_eq_true_eq, List.head?_cons, Option.some.injEq]
    exact ⟨fun h => UInt8.toNat_inj.1 (by omega), fun h => by rw [h]⟩
theorem suf_drop2 {r s : List UInt8} {j : Nat} (h : r <:+ s.drop j) (hj : j ≤ s.length) : j ≤ s.length - r.length ∧ s.length - r.length ≤ s.length ∧ (s.drop j).length - r.length = s.length - r.length - j := by
  have := h.length_le
  rw [List.length_drop] at this ⊢
  omega
/-- a Scan that stands at what is left -/
theorem at_ok {α : Type} {w : World} {b : Nat} {s : List UInt8} {k : Nat} (v : α) (h : ScA w b s k false) (hk : k ≤ s.length) : ScO w b s (Out.ok v (s.drop k)) := h.toO hk rfl rfl
end Ow
theorem ScO.grow {α : Type} {w : World} {b : Nat} {s : List UInt8} {o : Ow.Out α} (h : ScO w b s o) : ∃ k, k ≤ s.length ∧ o.rest = s.drop k ∧ k = s.length - o.rest.length ∧ ScA w b s k (Ow.fellB o) := ⟨_, Nat.sub_le _ _, (Ow.suf_at h.suf).symm, rfl, h.num⟩

set_option maxHeartbeats 16000000 in
theorem number_calls {α : Type} (o : Ow.Out α) (whole : Bool) (b : Nat) (s : List UInt8) (w : World) (h : ScO w b s o) (hs : s.length ≤ maxLen) :
    Calls Tryd.prog 33 #[.pointer (some ⟨b, 0, none⟩), .bool whole] w fun e w' =>
      (∃ x, e = .returned (.string x) ∧ ∀ v r, (o.bind fun _ r => Ow.num whole r) = .ok v r → x = str v) ∧ w.grownBy w' (some b) ∧ ScO w' b s (o.bind fun _ r => Ow.num whole r) := by
  have hss := str_size s
  have HS := Lib.hid hs
  unfold maxLen at hs
  have HG := Lib.hid (sc_below (Below.refl w.heap.size w) (some b))
  have h0 : ([] : List UInt8).length ≤ maxLen := by unfold maxLen; simp
  have H0 := Lib.hid h0
  clear h0
  cases o with
  | fell r =>
    obtain ⟨k, hk, hr, -, HA⟩ := h.grow
    obtain ⟨c0, c1, c2, fr, lt⟩ := HA
    have HO := Lib.hid h
    clear h hr
    go_enter Tryd.func33, Tryd.ntmps33
    go_wp2
    go_ret
    exact ⟨⟨_, rfl, fun v r e => by cases e⟩, HG.out, HO.out.to rfl rfl⟩
  | ok v0 r0 =>
    obtain ⟨j, hj, hr0, -, hA⟩ := h.grow
    obtain rfl : r0 = s.drop j := hr0
    have HA := Lib.hid (show ScA w b s j false from hA)
    have HO := Lib.hid h
    obtain ⟨P, hP⟩ : ∃ P, P = Ow.num whole (s.drop j) := ⟨_, rfl⟩
    rw [show ((Ow.Out.ok v0 (s.drop j)).bind fun _ r => Ow.num whole r) = P from hP.symm]
    have HP := Lib.hid (show P = (Ow.run 0 [] false (if (s.drop j).head? = some 45 then (s.drop j).tail else s.drop j)).bind fun _ r =>
      if whole = false ∧ r.head? = some 46 then (Ow.run 0 [] false r.tail).bind fun _ r' => .ok ((s.drop j).take ((s.drop j).length - r'.length)) r' else .ok ((s.drop j).take ((s.drop j).length - r.length)) r from hP)
    have hcut := Lib.hid (fun (k : Nat) (h1 : j ≤ k) (h2 : k ≤ s.length) => cut_mid s j k h1 h2)
    have hm := Lib.hid (Ow.hd_is (l := s.drop j) (c := 45) (by decide))
    have HN := Lib.hid (fun W (hW : ScO W b s (Ow.Out.ok v0 (s.drop j))) => scnext_calls _ b s W hW HS.out)
    clear h hA hP
    obtain ⟨c0, c1, c2, fr, lt⟩ := HA.out
    have hn0 := HN.out _ HO.out
    rw [show (Ow.Out.ok v0 (s.drop j)).rest = s.drop j from rfl] at hn0
    have Hn0 := Lib.hid hn0
    clear hn0 HN
    by_cases q : (s.drop j).head? = some 45
    rotate_left
    · rw [if_neg q] at HP
      have e0 : (Ow.hd (s.drop j) == 45) = false := by have := hm.out; rw [decide_eq_false q] at this; exact this
      clear hm q
      generalize Ow.hd (s.drop j) = H1 at *
      go_enter Tryd.func33, Tryd.ntmps33
      go_wp2_with fail
      refine Hn0.out.mono ?_; rintro e w2 ⟨rfl, b2⟩
      have HA2 := Lib.hid (HA.out.below b2)
      have HG2 := Lib.hid (sc_trans HG.out (sc_below b2 _))
      clear b2 Hn0 HA HG c0 c1 c2 fr lt
      obtain ⟨c0, c1, c2, fr, lt⟩ := HA2.out
      have HRun := Lib.hid (run_calls (Ow.Out.ok () (s.drop (j))) 0 [] false b s _ (Ow.at_ok () HA2.out (by omega)) H0.out HS.out)
      clear c0 c1 c2 fr lt
      go_wp2_with fail
      refine HRun.out.mono ?_; rintro e w3 ⟨⟨x3, rfl, _⟩, g3, O3⟩
      have HG3 := Lib.hid (sc_trans HG2.out g3)
      have HP2 := Lib.hid HP.out
      rw [show ((Ow.Out.ok () (s.drop (j))).bind fun _ r => Ow.run 0 [] false r) = Ow.run 0 [] false (s.drop (j)) from rfl] at O3
      have HSf := Lib.hid (Ow.suf_run 0 [] false (s.drop (j)))
      clear g3 HRun HP HG2
      cases hP1 : Ow.run 0 [] false (s.drop (j)) with
      | fell r =>
        rw [hP1] at O3 HP2 HSf
        have hr : Hid (P = .fell r) := HP2
        have HO3 := Lib.hid O3
        obtain ⟨k, hk, hk2, hk3, HA3⟩ := O3.grow
        obtain ⟨z1, z2, z3⟩ := Ow.suf_drop2 (r := r) (j := j) (by first | exact HSf.out | (have := HSf.out; rw [← List.drop_drop] at this; exact this.trans (List.drop_suffix _ _))) hj
        have hc := hcut.out k (by rw [hk3]; exact z1) hk
        have HA4 := Lib.hid (show ScA w3 b s k true from HA3)
        clear O3 HP2 HSf hP1 HA3 hk2 hk3 z1 z2 z3
        obtain ⟨c0, c1, c2, fr, lt⟩ := HA4.out
        go_upto_region 10 with fail
        go_quiet (fail)
        go_wp2
        go_ret
        exact ⟨⟨_, rfl, fun v r e => by rw [hr.out] at e; cases e⟩, sc_drewN HG3.out _, (HO3.out.below (below_drewN (Below.refl _ _) _)).to (by rw [hr.out]) (by rw [hr.out])⟩
      | ok v r =>
        rw [hP1] at O3 HP2 HSf
        have HO3 := Lib.hid O3
        have HSr : Hid (r <:+ s.drop (j)) := HSf
        obtain ⟨k, hk, hk2, hk3, HA3⟩ := O3.grow
        have hrk : r = s.drop k := hk2
        obtain ⟨z1, z2, z3⟩ := Ow.suf_drop2 (r := r) (j := j) (by first | exact HSr.out | (have := HSr.out; rw [← List.drop_drop] at this; exact this.trans (List.drop_suffix _ _))) hj
        have hjk : j ≤ k := by rw [hk3]; exact z1
        have hlen : (s.drop j).length - r.length = k - j := by rw [z3, hk3]; rfl
        have hc := hcut.out k hjk hk
        have HA4 := Lib.hid (show ScA w3 b s k false from HA3)
        have hP3 : P = if whole = false ∧ r.head? = some 46 then (Ow.run 0 [] false r.tail).bind fun _ r' => .ok ((s.drop j).take ((s.drop j).length - r'.length)) r' else .ok ((s.drop j).take (k - j)) r := by rw [← hlen]; exact HP2.out
        have HP3 := Lib.hid hP3
        have hm2 := Lib.hid (Ow.hd_is (l := r) (c := 46) (by decide))
        have hn2 := scnext_calls _ b s w3 HO3.out HS.out
        rw [show (Ow.Out.ok v r).rest = r from rfl] at hn2
        have Hn2 := Lib.hid hn2
        have Hrk := Lib.hid hrk
        clear O3 HP2 HSf HSr hP1 HA3 hk2 hk3 z1 z2 z3 hP3 hn2 hrk hlen
        obtain ⟨c0, c1, c2, fr, lt⟩ := HA4.out
        cases whole with
        | true =>
          have hr : Hid (P = .ok ((s.drop j).take (k - j)) r) := Lib.hid (by have := HP3.out; rwa [if_neg (fun h => by cases h.1)] at this)
          clear HP3 Hn2 hm2
          go_upto_region 10 with fail
          go_quiet (fail)
          go_wp2
          go_ret
          exact ⟨⟨_, rfl, fun v r e => by rw [hr.out] at e; injection e with e1 e2; rw [e1]⟩, sc_drewN HG3.out _, (HA4.out.drewN _).toO hk (by rw [hr.out]; exact Hrk.out) (by rw [hr.out]; rfl)⟩
        | false =>
          by_cases q2 : r.head? = some 46
          rotate_left
          · have hr : Hid (P = .ok ((s.drop j).take (k - j)) r) := Lib.hid (by have := HP3.out; rwa [if_neg (fun h => q2 h.2)] at this)
            have e2 : (Ow.hd r == 46) = false := by have := hm2.out; rw [decide_eq_false q2] at this; exact this
            clear HP3 hm2 q2
            generalize Ow.hd r = H2 at *
            go_wp2_with fail
            refine Hn2.out.mono ?_; rintro e w4 ⟨rfl, b4⟩
            have HA5 := Lib.hid (HA4.out.below b4)
            have HG5 := Lib.hid (sc_trans HG3.out (sc_below b4 _))
            clear b4 Hn2 HA4 HG3 c0 c1 c2 fr lt
            obtain ⟨c0, c1, c2, fr, lt⟩ := HA5.out
            go_upto_region 10 with fail
            go_quiet (fail)
            go_wp2
            go_ret
            exact ⟨⟨_, rfl, fun v r e => by rw [hr.out] at e; injection e with e1 e2; rw [e1]⟩, sc_drewN HG5.out _, (HA5.out.drewN _).toO hk (by rw [hr.out]; exact Hrk.out) (by rw [hr.out]; rfl)⟩
          have hkl2 : k < s.length := by
            have h1 := Hrk.out
            rcases Nat.lt_or_ge k s.length with h2 | h2
            · exact h2
            · rw [List.drop_of_length_le h2] at h1; rw [h1] at q2; cases q2
          have htl : r.tail = s.drop (k + 1) := by rw [Hrk.out, List.tail_drop]
          have hr : Hid (P = (Ow.run 0 [] false (s.drop (k + 1))).bind fun _ r' => .ok ((s.drop j).take ((s.drop j).length - r'.length)) r') := Lib.hid (by have := HP3.out; rw [if_pos ⟨rfl, q2⟩, htl] at this; exact this)
          have e2 : (Ow.hd r == 46) = true := by have := hm2.out; rw [decide_eq_true q2] at this; exact this
          have hw2 : IntKind.i64.wrap ((k : Int) + 1) = ((k + 1 : Nat) : Int) := by rw [show (k : Int) + 1 = ((k + 1 : Nat) : Int) by omega]; exact IntWalk.i64_in _ (by omega)
          clear HP3 hm2 q2 htl hc Hrk
          generalize Ow.hd r = H2 at *
          go_wp2_with fail
          refine Hn2.out.mono ?_; rintro e w4 ⟨rfl, b4⟩
          have HA5 := Lib.hid (HA4.out.below b4)
          have HG5 := Lib.hid (sc_trans HG3.out (sc_below b4 _))
          clear b4 Hn2 HA4 HG3 c0 c1 c2 fr lt
          obtain ⟨c0, c1, c2, fr, lt⟩ := HA5.out
          have HRun2 := Lib.hid (run_calls (Ow.Out.ok () (s.drop (k + 1))) 0 [] false b s _ (Ow.at_ok () (HA5.out.move (k + 1)) hkl2) H0.out HS.out)
          have HG6 := Lib.hid (sc_set (i := 1) (v := .int .i64 ((k + 1 : Nat) : Int)) HG5.out)
          go_wp2_with fail
          refine HRun2.out.mono ?_; rintro e w6 ⟨⟨x6, rfl, _⟩, g6, O6⟩
          rw [show ((Ow.Out.ok () (s.drop (k + 1))).bind fun _ r => Ow.run 0 [] false r) = Ow.run 0 [] false (s.drop (k + 1)) from rfl] at O6
          have HG7 := Lib.hid (sc_trans HG6.out g6)
          have hsf := Ow.suf_run 0 [] false (s.drop (k + 1))
          obtain ⟨k2, hk2, hk3, hk4, HA6⟩ := O6.grow
          have hd1 : s.drop (k + 1) = (s.drop j).drop (k + 1 - j) := by rw [List.drop_drop, show j + (k + 1 - j) = k + 1 by omega]
          obtain ⟨z1, z2, z3⟩ := Ow.suf_drop2 (r := (Ow.run 0 [] false (s.drop (k + 1))).rest) (j := j) (by rw [hd1] at hsf ⊢; exact hsf.trans (List.drop_suffix _ _)) hj
          have hc := hcut.out k2 (by rw [hk4]; exact z1) hk2
          have hr7 : Hid (∀ v r, P = .ok v r → v = (s.drop j).take (k2 - j)) := Lib.hid (fun v r e => by
            rw [hr.out] at e
            cases hq : Ow.run 0 [] false (s.drop (k + 1)) with
            | fell r' => rw [hq] at e; cases e
            | ok v' r' =>
              rw [hq] at e hk4 z3
              injection e with e1 e2
              have z4 : (s.drop j).length - r'.length = s.length - r'.length - j := z3
              rw [← e1, z4, show s.length - r'.length = k2 from hk4.symm])
          have hr8 : Hid (P.rest = s.drop k2 ∧ Ow.fellB P = Ow.fellB (Ow.run 0 [] false (s.drop (k + 1)))) := Lib.hid (by
            rw [hr.out, ← hk3]
            cases Ow.run 0 [] false (s.drop (k + 1)) <;> exact ⟨rfl, rfl⟩)
          generalize Ow.fellB (Ow.run 0 [] false (s.drop (k + 1))) = f6 at *
          have HA7 := Lib.hid HA6
          clear g6 O6 HRun2 HG6 HG5 HA5 hsf hk3 hk4 HA6 hd1 z1 z2 z3 hr c0 c1 c2 fr lt
          obtain ⟨c0, c1, c2, fr, lt⟩ := HA7.out
          go_upto_region 10 with fail
          go_quiet (fail)
          go_wp2
          go_ret
          exact ⟨⟨_, rfl, fun v r e => by rw [hr7.out v r e]⟩, sc_drewN HG7.out _, (HA7.out.drewN _).toO hk2 hr8.out.1 hr8.out.2⟩
    have hjl : j < s.length := by
      rcases Nat.lt_or_ge j s.length with h2 | h2
      · exact h2
      · rw [List.drop_of_length_le h2] at q; cases q
    rw [if_pos q, List.tail_drop] at HP
    have e0 : (Ow.hd (s.drop j) == 45) = true := by have := hm.out; rw [decide_eq_true q] at this; exact this
    have hw1 : IntKind.i64.wrap ((j : Int) + 1) = ((j + 1 : Nat) : Int) := by rw [show (j : Int) + 1 = ((j + 1 : Nat) : Int) by omega]; exact IntWalk.i64_in _ (by omega)
    clear hm q
    generalize Ow.hd (s.drop j) = H1 at *
    go_enter Tryd.func33, Tryd.ntmps33
    go_wp2_with fail
    refine Hn0.out.mono ?_; rintro e w2 ⟨rfl, b2⟩
    have HA1 := Lib.hid (HA.out.below b2)
    have HG1 := Lib.hid (sc_trans HG.out (sc_below b2 _))
    clear b2 Hn0 HA HG c0 c1 c2 fr lt
    obtain ⟨c0, c1, c2, fr, lt⟩ := HA1.out
    have HA2 := Lib.hid (HA1.out.move (j + 1))
    have HG2 := Lib.hid (sc_set (i := 1) (v := .int .i64 ((j + 1 : Nat) : Int)) HG1.out)
    go_upto_region 6 with fail
    have HRun := Lib.hid (run_calls (Ow.Out.ok () (s.drop (j + 1))) 0 [] false b s _ (Ow.at_ok () HA2.out (by omega)) H0.out HS.out)
    clear c0 c1 c2 fr lt
    go_wp2_with fail
    refine HRun.out.mono ?_; rintro e w3 ⟨⟨x3, rfl, _⟩, g3, O3⟩
    have HG3 := Lib.hid (sc_trans HG2.out g3)
    have HP2 := Lib.hid HP.out
    rw [show ((Ow.Out.ok () (s.drop (j + 1))).bind fun _ r => Ow.run 0 [] false r) = Ow.run 0 [] false (s.drop (j + 1)) from rfl] at O3
    have HSf := Lib.hid (Ow.suf_run 0 [] false (s.drop (j + 1)))
    clear g3 HRun HP HG2
    cases hP1 : Ow.run 0 [] false (s.drop (j + 1)) with
    | fell r =>
      rw [hP1] at O3 HP2 HSf
      have hr : Hid (P = .fell r) := HP2
      have HO3 := Lib.hid O3
      obtain ⟨k, hk, hk2, hk3, HA3⟩ := O3.grow
      obtain ⟨z1, z2, z3⟩ := Ow.suf_drop2 (r := r) (j := j) (by first | exact HSf.out | (have := HSf.out; rw [← List.drop_drop] at this; exact this.trans (List.drop_suffix _ _))) hj
      have hc := hcut.out k (by rw [hk3]; exact z1) hk
      have HA4 := Lib.hid (show ScA w3 b s k true from HA3)
      clear O3 HP2 HSf hP1 HA3 hk2 hk3 z1 z2 z3
      obtain ⟨c0, c1, c2, fr, lt⟩ := HA4.out
      go_upto_region 10 with fail
      go_quiet (fail)
      go_wp2
      go_ret
      exact ⟨⟨_, rfl, fun v r e => by rw [hr.out] at e; cases e⟩, sc_drewN HG3.out _, (HO3.out.below (below_drewN (Below.refl _ _) _)).to (by rw [hr.out]) (by rw [hr.out])⟩
    | ok v r =>
      rw [hP1] at O3 HP2 HSf
      have HO3 := Lib.hid O3
      have HSr : Hid (r <:+ s.drop (j + 1)) := HSf
      obtain ⟨k, hk, hk2, hk3, HA3⟩ := O3.grow
      have hrk : r = s.drop k := hk2
      obtain ⟨z1, z2, z3⟩ := Ow.suf_drop2 (r := r) (j := j) (by first | exact HSr.out | (have := HSr.out; rw [← List.drop_drop] at this; exact this.trans (List.drop_suffix _ _))) hj
      have hjk : j ≤ k := by rw [hk3]; exact z1
      have hlen : (s.drop j).length - r.length = k - j := by rw [z3, hk3]; rfl
      have hc := hcut.out k hjk hk
      have HA4 := Lib.hid (show ScA w3 b s k false from HA3)
      have hP3 : P = if whole = false ∧ r.head? = some 46 then (Ow.run 0 [] false r.tail).bind fun _ r' => .ok ((s.drop j).take ((s.drop j).length - r'.length)) r' else .ok ((s.drop j).take (k - j)) r := by rw [← hlen]; exact HP2.out
      have HP3 := Lib.hid hP3
      have hm2 := Lib.hid (Ow.hd_is (l := r) (c := 46) (by decide))
      have hn2 := scnext_calls _ b s w3 HO3.out HS.out
      rw [show (Ow.Out.ok v r).rest = r from rfl] at hn2
      have Hn2 := Lib.hid hn2
      have Hrk := Lib.hid hrk
      clear O3 HP2 HSf HSr hP1 HA3 hk2 hk3 z1 z2 z3 hP3 hn2 hrk hlen
      obtain ⟨c0, c1, c2, fr, lt⟩ := HA4.out
      cases whole with
      | true =>
        have hr : Hid (P = .ok ((s.drop j).take (k - j)) r) := Lib.hid (by have := HP3.out; rwa [if_neg (fun h => by cases h.1)] at this)
        clear HP3 Hn2 hm2
        go_upto_region 10 with fail
        go_quiet (fail)
        go_wp2
        go_ret
        exact ⟨⟨_, rfl, fun v r e => by rw [hr.out] at e; injection e with e1 e2; rw [e1]⟩, sc_drewN HG3.out _, (HA4.out.drewN _).toO hk (by rw [hr.out]; exact Hrk.out) (by rw [hr.out]; rfl)⟩
      | false =>
        by_cases q2 : r.head? = some 46
        rotate_left
        · have hr : Hid (P = .ok ((s.drop j).take (k - j)) r) := Lib.hid (by have := HP3.out; rwa [if_neg (fun h => q2 h.2)] at this)
          have e2 : (Ow.hd r == 46) = false := by have := hm2.out; rw [decide_eq_false q2] at this; exact this
          clear HP3 hm2 q2
          generalize Ow.hd r = H2 at *
          go_wp2_with fail
          refine Hn2.out.mono ?_; rintro e w4 ⟨rfl, b4⟩
          have HA5 := Lib.hid (HA4.out.below b4)
          have HG5 := Lib.hid (sc_trans HG3.out (sc_below b4 _))
          clear b4 Hn2 HA4 HG3 c0 c1 c2 fr lt
          obtain ⟨c0, c1, c2, fr, lt⟩ := HA5.out
          go_upto_region 10 with fail
          go_quiet (fail)
          go_wp2
          go_ret
          exact ⟨⟨_, rfl, fun v r e => by rw [hr.out] at e; injection e with e1 e2; rw [e1]⟩, sc_drewN HG5.out _, (HA5.out.drewN _).toO hk (by rw [hr.out]; exact Hrk.out) (by rw [hr.out]; rfl)⟩
        have hkl2 : k < s.length := by
          have h1 := Hrk.out
          rcases Nat.lt_or_ge k s.length with h2 | h2
          · exact h2
          · rw [List.drop_of_length_le h2] at h1; rw [h1] at q2; cases q2
        have htl : r.tail = s.drop (k + 1) := by rw [Hrk.out, List.tail_drop]
        have hr : Hid (P = (Ow.run 0 [] false (s.drop (k + 1))).bind fun _ r' => .ok ((s.drop j).take ((s.drop j).length - r'.length)) r') := Lib.hid (by have := HP3.out; rw [if_pos ⟨rfl, q2⟩, htl] at this; exact this)
        have e2 : (Ow.hd r == 46) = true := by have := hm2.out; rw [decide_eq_true q2] at this; exact this
        have hw2 : IntKind.i64.wrap ((k : Int) + 1) = ((k + 1 : Nat) : Int) := by rw [show (k : Int) + 1 = ((k + 1 : Nat) : Int) by omega]; exact IntWalk.i64_in _ (by omega)
        clear HP3 hm2 q2 htl hc Hrk
        generalize Ow.hd r = H2 at *
        go_wp2_with fail
        refine Hn2.out.mono ?_; rintro e w4 ⟨rfl, b4⟩
        have HA5 := Lib.hid (HA4.out.below b4)
        have HG5 := Lib.hid (sc_trans HG3.out (sc_below b4 _))
        clear b4 Hn2 HA4 HG3 c0 c1 c2 fr lt
        obtain ⟨c0, c1, c2, fr, lt⟩ := HA5.out
        have HRun2 := Lib.hid (run_calls (Ow.Out.ok () (s.drop (k + 1))) 0 [] false b s _ (Ow.at_ok () (HA5.out.move (k + 1)) hkl2) H0.out HS.out)
        have HG6 := Lib.hid (sc_set (i := 1) (v := .int .i64 ((k + 1 : Nat) : Int)) HG5.out)
        go_wp2_with fail
        refine HRun2.out.mono ?_; rintro e w6 ⟨⟨x6, rfl, _⟩, g6, O6⟩
        rw [show ((Ow.Out.ok () (s.drop (k + 1))).bind fun _ r => Ow.run 0 [] false r) = Ow.run 0 [] false (s.drop (k + 1)) from rfl] at O6
        have HG7 := Lib.hid (sc_trans HG6.out g6)
        have hsf := Ow.suf_run 0 [] false (s.drop (k + 1))
        obtain ⟨k2, hk2, hk3, hk4, HA6⟩ := O6.grow
        have hd1 : s.drop (k + 1) = (s.drop j).drop (k + 1 - j) := by rw [List.drop_drop, show j + (k + 1 - j) = k + 1 by omega]
        obtain ⟨z1, z2, z3⟩ := Ow.suf_drop2 (r := (Ow.run 0 [] false (s.drop (k + 1))).rest) (j := j) (by rw [hd1] at hsf ⊢; exact hsf.trans (List.drop_suffix _ _)) hj
        have hc := hcut.out k2 (by rw [hk4]; exact z1) hk2
        have hr7 : Hid (∀ v r, P = .ok v r → v = (s.drop j).take (k2 - j)) := Lib.hid (fun v r e => by
          rw [hr.out] at e
          cases hq : Ow.run 0 [] false (s.drop (k + 1)) with
          | fell r' => rw [hq] at e; cases e
          | ok v' r' =>
            rw [hq] at e hk4 z3
            injection e with e1 e2
            have z4 : (s.drop j).length - r'.length = s.length - r'.length - j := z3
            rw [← e1, z4, show s.length - r'.length = k2 from hk4.symm])
        have hr8 : Hid (P.rest = s.drop k2 ∧ Ow.fellB P = Ow.fellB (Ow.run 0 [] false (s.drop (k + 1)))) := Lib.hid (by
          rw [hr.out, ← hk3]
          cases Ow.run 0 [] false (s.drop (k + 1)) <;> exact ⟨rfl, rfl⟩)
        generalize Ow.fellB (Ow.run 0 [] false (s.drop (k + 1))) = f6 at *
        have HA7 := Lib.hid HA6
        clear g6 O6 HRun2 HG6 HG5 HA5 hsf hk3 hk4 HA6 hd1 z1 z2 z3 hr c0 c1 c2 fr lt
        obtain ⟨c0, c1, c2, fr, lt⟩ := HA7.out
        go_upto_region 10 with fail
        go_quiet (fail)
        go_wp2
        go_ret
        exact ⟨⟨_, rfl, fun v r e => by rw [hr7.out v r e]⟩, sc_drewN HG7.out _, (HA7.out.drewN _).toO hk2 hr8.out.1 hr8.out.2⟩

end Go.Proofs.YthniemoganoapaaDoor
