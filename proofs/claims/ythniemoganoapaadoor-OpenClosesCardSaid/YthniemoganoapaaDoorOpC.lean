/- The walks of the cursor's number, scalar, part, text of package openword (layer 17). -/
import Derived.Test.YthniemoganoapaaDoorOpB
import Derived.Test.YthniemoganoapaaDoorGrd
set_option maxRecDepth 100000
set_option linter.unusedVariables false
set_option linter.unusedSimpArgs false
namespace Go.Proofs.YthniemoganoapaaDoor
open Go.RowKit
attribute [local go_sem ↓] Go.wp_at_zero Go.wp_at_succ

theorem Ow.lit1_rest (t : UInt8) (l : List UInt8) : (Ow.lit [t] l).rest = if l.head? = some t then l.tail else l := by
  by_cases h : l.head? = some t
  · rw [Ow.take_yes h, if_pos h]; rfl
  · rw [Ow.take_no h, if_neg h]; rfl
theorem Ow.lit1_okB (t : UInt8) (l : List UInt8) : Ow.okB (Ow.lit [t] l) = decide (l.head? = some t) := by
  by_cases h : l.head? = some t
  · rw [Ow.take_yes h, decide_eq_true h]; rfl
  · rw [Ow.take_no h, decide_eq_false h]; rfl

set_option maxHeartbeats 8000000 in
theorem onumber_calls (b k : Nat) (s : List UInt8) (w : World) (h : Cur w b s k) (hs : s.length ≤ maxLen) :
    Calls Tryd.prog 62 #[.pointer (some ⟨b, 0, none⟩)] w fun e w' =>
      (∃ x, e = .returned (.tuple #[.string x, .bool (Ow.okB (Ow.num false (s.drop k)))]) ∧ ∀ v r, Ow.num false (s.drop k) = .ok v r → x = str v) ∧ w.grownBy w' (some b) ∧ Took w' b s k (Ow.num false (s.drop k)) := by
  have HT := Lib.hid (fun (t : UInt8) j W (hW : Cur W b s j) => take_calls t b j s W hW hs)
  have HM := Lib.hid (fun j W (hW : Cur W b s j) => many_calls 4 b j s W (by decide) hW hs)
  have H := Lib.hid h
  have HG := Lib.hid (sc_below (Below.refl w.heap.size w) (some b))
  obtain ⟨c0, c1, fr, lt, le, -⟩ := h
  unfold maxLen at hs
  obtain ⟨o, ho⟩ : ∃ o, o = Ow.num false (s.drop k) := ⟨_, rfl⟩
  rw [← ho]
  have hcut := Lib.hid (fun (j : Nat) (h1 : k ≤ j) (h2 : j ≤ s.length) => cut_mid s k j h1 h2)
  have hlen := Lib.hid (fun (j : Nat) (h1 : k ≤ j) (h2 : j ≤ s.length) => show (s.drop k).take ((s.drop k).length - (s.drop j).length) = (s.drop k).take (j - k) by rw [List.length_drop, List.length_drop]; congr 1; omega)
  have hN := Lib.hid (ho.trans (Ow.num_is (s.drop k)))
  clear ho
  go_enter Tryd.func62, Tryd.ntmps62
  go_wp2_with fail
  refine (HT.out 45 k w H.out).mono ?_; rintro e w1 ⟨rfl, g1, j, hkj, hj, H1⟩
  rw [Ow.lit1_rest] at hj
  rw [hj] at hN
  have HN := Lib.hid hN.out
  have H1 := Lib.hid H1
  have HG1 := Lib.hid (sc_trans HG.out g1)
  have hM := HM.out j w1 H1.out
  rw [Ow.lit1_okB]
  clear hN hj g1 H HG c0 c1 fr lt H1
  rename_i H1
  generalize decide ((s.drop k).head? = some 45) = q1 at *
  cases q1 <;> (
  go_wp2_with fail
  refine hM.mono ?_; rintro e w2 ⟨⟨x2, rfl, hx2⟩, g2, i, hji, hi, H2⟩
  have H2 := Lib.hid H2
  have HG2 := Lib.hid (sc_trans HG1.out g2)
  have le2 := H2.out.le
  clear hM g2 H1 HG1 hx2
  cases hP : Ow.many 4 (s.drop j) with
  | fell r =>
    rw [hP] at hi HN
    have hr := Lib.hid (show o = .fell (s.drop i) by rw [HN.out, show r = s.drop i from hi]; rfl)
    have hc := hcut.out i (by omega) le2
    obtain ⟨c0, c1, fr, lt, -, -⟩ := H2.out
    clear hi HN hP
    go_upto_region 6 with fail
    go_quiet (fail)
    go_wp2
    go_ret2
    exact ⟨⟨_, by rw [hr.out]; rfl, fun v r e => by rw [hr.out] at e; cases e⟩, sc_drewN HG2.out _, i, by omega, by rw [hr.out]; rfl, H2.out.drewN _⟩
  | ok v r =>
    rw [hP] at hi HN
    obtain rfl : r = s.drop i := hi
    have HN2 := Lib.hid (show o = if (s.drop i).head? = some 46 then (Ow.many 4 (s.drop i).tail).bind fun _ r' => .ok ((s.drop k).take ((s.drop k).length - r'.length)) r' else .ok ((s.drop k).take ((s.drop k).length - (s.drop i).length)) (s.drop i) from HN.out)
    clear HN hP
    go_wp2_with fail
    refine (HT.out 46 i w2 H2.out).mono ?_; rintro e w3 ⟨rfl, g3, p, hip, hp, H3⟩
    rw [Ow.lit1_rest] at hp
    rw [Ow.lit1_okB]
    have H3 := Lib.hid H3
    have HG3 := Lib.hid (sc_trans HG2.out g3)
    clear g3 H2 HG2
    by_cases q : (s.drop i).head? = some 46
    · rw [if_pos q] at hp HN2
      rw [hp] at HN2
      rw [decide_eq_true q]
      have hM := HM.out p w3 H3.out
      clear q hp
      go_wp2_with fail
      refine hM.mono ?_; rintro e w4 ⟨⟨x4, rfl, hx4⟩, g4, m, hpm, hm, H4⟩
      have H4 := Lib.hid H4
      have HG4 := Lib.hid (sc_trans HG3.out g4)
      have le4 := H4.out.le
      clear hM g4 H3 HG3 hx4
      have hc := hcut.out m (by omega) le4
      have hl := Lib.hid (hlen.out m (by omega) le4)
      obtain ⟨c0, c1, fr, lt, -, -⟩ := H4.out
      cases hP : Ow.many 4 (s.drop p) with
      | fell r =>
        rw [hP] at hm HN2
        have hr := Lib.hid (show o = .fell (s.drop m) by rw [HN2.out, show r = s.drop m from hm]; rfl)
        clear hm HN2 hP hl
        go_upto_region 6 with fail
        go_quiet (fail)
        go_wp2
        go_ret2
        exact ⟨⟨_, by rw [hr.out]; rfl, fun v r e => by rw [hr.out] at e; cases e⟩, sc_drewN HG4.out _, m, by omega, by rw [hr.out]; rfl, H4.out.drewN _⟩
      | ok v2 r =>
        rw [hP] at hm HN2
        have hr := Lib.hid (show o = .ok ((s.drop k).take (m - k)) (s.drop m) by rw [HN2.out, show r = s.drop m from hm, ← hl.out]; rfl)
        clear hm HN2 hP hl
        go_upto_region 6 with fail
        go_quiet (fail)
        go_wp2
        go_ret2
        exact ⟨⟨_, by rw [hr.out]; rfl, fun v r e => by rw [hr.out] at e; injection e with e1 e2; rw [e1]⟩, sc_drewN HG4.out _, m, by omega, by rw [hr.out]; rfl, H4.out.drewN _⟩
    · rw [if_neg q] at hp HN2
      rw [decide_eq_false q]
      have hpi : p = i := by
        have := congrArg List.length hp
        rw [List.length_drop, List.length_drop] at this
        have := H3.out.le
        omega
      subst hpi
      have hr := Lib.hid (show o = .ok ((s.drop k).take (p - k)) (s.drop p) by rw [HN2.out, hlen.out p (by omega) le2])
      have hc := hcut.out p (by omega) le2
      obtain ⟨c0, c1, fr, lt, -, -⟩ := H3.out
      clear hp q HN2
      go_upto_region 6 with fail
      go_quiet (fail)
      go_wp2
      go_ret2
      exact ⟨⟨_, by rw [hr.out]; rfl, fun v r e => by rw [hr.out] at e; injection e with e1 e2; rw [e1]⟩, sc_drewN HG3.out _, p, by omega, by rw [hr.out]; rfl, H3.out.drewN _⟩)

/-- a scalar, where a text goes on -/
def Ow.scal (l : List UInt8) : Ow.Out (List UInt8) := if (Utf.front l).2 = true then .ok (l.take (Utf.front l).1) (l.drop (Utf.front l).1) else .fell (l.drop (Utf.front l).1)
theorem Ow.bad_front {l : List UInt8} (hl : l ≠ []) (hw : ¬ (Utf.front l).2 = true) : Utf.bad l = ((Utf.front l).1 : Nat) := by
  have := Utf.steps_not hl (by simpa using hw)
  unfold Utf.bad; rw [this]; rfl

set_option maxHeartbeats 8000000 in
theorem oscalar_calls (b k : Nat) (s : List UInt8) (w : World) (h : Cur w b s k) (hs : s.length ≤ maxLen) (hk : k < s.length) :
    Calls Tryd.prog 67 #[.pointer (some ⟨b, 0, none⟩)] w fun e w' =>
      (∃ x, e = .returned (.tuple #[.string x, .bool (Ow.okB (Ow.scal (s.drop k)))]) ∧ ∀ v r, Ow.scal (s.drop k) = .ok v r → x = str v) ∧ w.grownBy w' (some b) ∧ Took w' b s k (Ow.scal (s.drop k)) := by
  have HNx := Lib.hid (fun W (hW : Cur W b s k) => next_calls (str s) k W (by rw [str_size]; exact hs) hW.tab.shp hW.tab.mks)
  have HBd := Lib.hid (fun W (hW : Cur W b s k) => bad_calls (str (s.drop k)) W (by rw [str_size, List.length_drop]; omega) hW.tab.shp)
  have H := Lib.hid h
  have HG := Lib.hid (sc_below (Below.refl w.heap.size w) (some b))
  obtain ⟨c0, c1, fr, lt, le, -⟩ := h
  unfold maxLen at hs
  obtain ⟨o, ho⟩ : ∃ o, o = Ow.scal (s.drop k) := ⟨_, rfl⟩
  rw [← ho]
  have hfl := (Utf.front_le (s.drop k)).1
  rw [List.length_drop] at hfl
  have hnx := HNx.out w H.out
  rw [show (str s).data.toList = s from rfl] at hnx
  by_cases q : (Utf.front (s.drop k)).2 = true
  · have hn : Utf.next s (k : Int) = (Utf.val ((s.drop k).take (Utf.front (s.drop k)).1), (Utf.front (s.drop k)).1, true) := by
      unfold Utf.next
      rw [show (k : Int).toNat = k from rfl, if_pos ⟨by omega, by omega, q⟩]
    rw [hn] at hnx
    have hr0 : o = .ok ((s.drop k).take (Utf.front (s.drop k)).1) (s.drop (k + (Utf.front (s.drop k)).1)) := by
      rw [ho]; unfold Ow.scal; rw [if_pos q, List.drop_drop]
    generalize Utf.val ((s.drop k).take (Utf.front (s.drop k)).1) = V at *
    clear hn q ho HBd HNx
    generalize (Utf.front (s.drop k)).1 = n at *
    have hr := Lib.hid hr0
    have hkn : k + n ≤ s.length := by omega
    have hw : IntKind.i64.wrap ((k : Int) + (n : Int)) = ((k + n : Nat) : Int) := by rw [show (k : Int) + (n : Int) = ((k + n : Nat) : Int) by omega]; exact IntWalk.i64_in _ (by omega)
    have hcut := cut_mid s k (k + n) (by omega) hkn
    rw [show k + n - k = n by omega] at hcut
    have hx := Lib.hid (show (str s).extract k (k + n) = str ((s.drop k).take n) from str_ext (by
      rw [ext_list]
      show ((s.take (k + n)).drop k) = _
      rw [List.drop_take, show k + n - k = n by omega]))
    clear hr0
    go_enter Tryd.func67, Tryd.ntmps67
    go_wp2_with fail
    refine hnx.mono ?_; rintro e w1 ⟨rfl, b1⟩
    have H1 := Lib.hid (H.out.below b1)
    have HG1 := Lib.hid (sc_trans HG.out (sc_below b1 _))
    clear hnx b1 H HG c0 c1 fr lt
    obtain ⟨c0, c1, fr, lt, -, -⟩ := H1.out
    go_upto_region 5 with fail
    go_quiet (fail)
    go_wp2
    go_ret2
    exact ⟨⟨_, by rw [hr.out]; rfl, fun v r e => by rw [hr.out] at e; injection e with e1 e2; rw [← e1]; first | rfl | exact hx.out⟩, sc_drewN (sc_set HG1.out) _, k + n, by omega, by rw [hr.out]; rfl, (H1.out.move _ hkn).drewN _⟩
  · have hn : Utf.next s (k : Int) = (0, 0, false) := by
      unfold Utf.next
      rw [if_neg (fun h => q h.2.2)]
    rw [hn] at hnx
    have hne : s.drop k ≠ [] := Utf.drop_ne hk
    have hbd := Ow.bad_front hne q
    have HB2 := Lib.hid (fun W (hW : Cur W b s k) => by have := HBd.out W hW; rw [show (str (s.drop k)).data.toList = s.drop k from rfl, hbd] at this; exact this)
    have hr0 : o = .fell (s.drop (k + (Utf.front (s.drop k)).1)) := by
      rw [ho]; unfold Ow.scal; rw [if_neg q, List.drop_drop]
    clear hn q ho HBd HNx hbd hne
    have hcut := cut_off s k k rfl le
    generalize (Utf.front (s.drop k)).1 = n at *
    have hr := Lib.hid hr0
    have hkn : k + n ≤ s.length := by omega
    have hw : IntKind.i64.wrap ((k : Int) + (n : Int)) = ((k + n : Nat) : Int) := by rw [show (k : Int) + (n : Int) = ((k + n : Nat) : Int) by omega]; exact IntWalk.i64_in _ (by omega)
    clear hr0
    go_enter Tryd.func67, Tryd.ntmps67
    go_wp2_with fail
    refine hnx.mono ?_; rintro e w1 ⟨rfl, b1⟩
    have H1 := Lib.hid (H.out.below b1)
    have HG1 := Lib.hid (sc_trans HG.out (sc_below b1 _))
    clear hnx b1 H HG c0 c1 fr lt
    obtain ⟨c0, c1, fr, lt, -, -⟩ := H1.out
    go_upto_region 6 with fail
    clear c0 c1 fr
    refine wp_region_noPanic ?_
    refine wp_region_held_drew (S := fun X => Below b w1 X) (by kernel_rfl) ?_ (fun hHeld => ?_)
    · exact Below.drew (Below.refl _ _)
    have kB : Below b w1 w1.drew := Below.drew (Below.refl _ _)
    clear hHeld
    have kF : Below w1.heap.size w1 w1.drew := Below.drew (Below.refl _ _)
    refine tk9 0 kB ?_
    refine tk9 1 kB ?_
    refine tk9 2 kB ?_
    refine tk9 4 kB ?_
    refine tk9 5 kB ?_
    refine tk9 6 kB ?_
    refine tk9 8 kB ?_
    refine wpAnyH_ready (rs := [3, 7]) (by kernel_rfl) (by simp) ?_
    refine AllReadyH.cons (by simp only [List.getElem?_toArray, List.getElem?_cons_succ, List.getElem?_cons_zero]; rfl) (fun K hK => ?_) ?_
    · obtain ⟨y0, y1, yf, yl, -, -⟩ := H1.out.below kF
      go_simp
      clear y0 y1 yf yl
      refine hK.out _ _ kB (fun hHeld => ?_)
      clear hK K hHeld
      (try simp only [Act.put, List.setIfInBounds_toArray, List.set_cons_zero, List.set_cons_succ])
      refine wpAnyH_ready (rs := [7]) (by kernel_rfl) (by simp) ?_
      refine AllReadyH.cons (by simp only [List.getElem?_toArray, List.getElem?_cons_succ, List.getElem?_cons_zero]; rfl) (fun K hK => ?_) AllReadyH.nil
      obtain ⟨y0, y1, yf, yl, -, -⟩ := H1.out.below kF
      go_simp
      clear y0 y1 yf yl
      refine hK.out _ _ kB (fun hHeld => ?_)
      clear hK K hHeld
      (try simp only [Act.put, List.setIfInBounds_toArray, List.set_cons_zero, List.set_cons_succ])
      refine tk9 9 kB ?_
      refine wpAnyH_ready (rs := [10]) (by kernel_rfl) (by simp) ?_
      refine AllReadyH.cons (by simp only [List.getElem?_toArray, List.getElem?_cons_succ, List.getElem?_cons_zero]; rfl) (fun K hK => ?_) AllReadyH.nil
      try go_simp
      refine (HB2.out _ (H1.out.below kF)).mono ?_
      rintro e w2 ⟨rfl, b2⟩
      replace kF := kF.trans (b2.mono kF.size)
      replace kB := kF.mono (Nat.le_of_lt lt)
      clear b2
      refine hK.out _ _ kB (fun hHeld => ?_)
      clear hK K hHeld
      (try simp only [Act.put, List.setIfInBounds_toArray, List.set_cons_zero, List.set_cons_succ])
      refine tk9 11 kB ?_
      refine tk9 12 kB ?_
      refine tk9 13 kB ?_
      refine wpAnyH_ready (rs := [14]) (by kernel_rfl) (by simp) ?_
      refine AllReadyH.cons (by simp only [List.getElem?_toArray, List.getElem?_cons_succ, List.getElem?_cons_zero]; rfl) (fun K hK => ?_) AllReadyH.nil
      have yC := Lib.hid ((H1.out.below kF).move (k + n) hkn)
      have yG := Lib.hid (sc_set (v := .int .i64 (k + n : Nat)) (i := 1) (sc_trans HG1.out (sc_below kF _)))
      obtain ⟨y0, y1, yf, yl, -, -⟩ := H1.out.below kF
      go_simp
      replace kB := Below.setCell kB (p := ⟨b, 1, none⟩) (Nat.le_refl _) (.int .i64 (k + n : Nat))
      clear y0 y1 yf yl
      refine hK.out _ _ kB (fun hHeld => ?_)
      clear hK K hHeld
      (try simp only [Act.put, List.setIfInBounds_toArray, List.set_cons_zero, List.set_cons_succ])
      refine wpAnyH_done (by kernel_rfl) ?_ _
      refine NoPanic.normal ?_
      have H2 := yC
      have HG2 := yG
      clear kB kF yC yG
      go_wp2
      go_ret2
      exact ⟨⟨_, by rw [hr.out]; rfl, fun v r e => by rw [hr.out] at e; cases e⟩, HG2.out, k + n, by omega, by rw [hr.out]; rfl, H2.out⟩
    refine AllReadyH.cons (by simp only [List.getElem?_toArray, List.getElem?_cons_succ, List.getElem?_cons_zero]; rfl) (fun K hK => ?_) AllReadyH.nil
    obtain ⟨y0, y1, yf, yl, -, -⟩ := H1.out.below kF
    go_simp
    clear y0 y1 yf yl
    refine hK.out _ _ kB (fun hHeld => ?_)
    clear hK K hHeld
    (try simp only [Act.put, List.setIfInBounds_toArray, List.set_cons_zero, List.set_cons_succ])
    refine tk9 9 kB ?_
    refine wpAnyH_ready (rs := [3, 10]) (by kernel_rfl) (by simp) ?_
    refine AllReadyH.cons (by simp only [List.getElem?_toArray, List.getElem?_cons_succ, List.getElem?_cons_zero]; rfl) (fun K hK => ?_) ?_
    · obtain ⟨y0, y1, yf, yl, -, -⟩ := H1.out.below kF
      go_simp
      clear y0 y1 yf yl
      refine hK.out _ _ kB (fun hHeld => ?_)
      clear hK K hHeld
      (try simp only [Act.put, List.setIfInBounds_toArray, List.set_cons_zero, List.set_cons_succ])
      refine wpAnyH_ready (rs := [10]) (by kernel_rfl) (by simp) ?_
      refine AllReadyH.cons (by simp only [List.getElem?_toArray, List.getElem?_cons_succ, List.getElem?_cons_zero]; rfl) (fun K hK => ?_) AllReadyH.nil
      try go_simp
      refine (HB2.out _ (H1.out.below kF)).mono ?_
      rintro e w2 ⟨rfl, b2⟩
      replace kF := kF.trans (b2.mono kF.size)
      replace kB := kF.mono (Nat.le_of_lt lt)
      clear b2
      refine hK.out _ _ kB (fun hHeld => ?_)
      clear hK K hHeld
      (try simp only [Act.put, List.setIfInBounds_toArray, List.set_cons_zero, List.set_cons_succ])
      refine tk9 11 kB ?_
      refine tk9 12 kB ?_
      refine tk9 13 kB ?_
      refine wpAnyH_ready (rs := [14]) (by kernel_rfl) (by simp) ?_
      refine AllReadyH.cons (by simp only [List.getElem?_toArray, List.getElem?_cons_succ, List.getElem?_cons_zero]; rfl) (fun K hK => ?_) AllReadyH.nil
      have yC := Lib.hid ((H1.out.below kF).move (k + n) hkn)
      have yG := Lib.hid (sc_set (v := .int .i64 (k + n : Nat)) (i := 1) (sc_trans HG1.out (sc_below kF _)))
      obtain ⟨y0, y1, yf, yl, -, -⟩ := H1.out.below kF
      go_simp
      replace kB := Below.setCell kB (p := ⟨b, 1, none⟩) (Nat.le_refl _) (.int .i64 (k + n : Nat))
      clear y0 y1 yf yl
      refine hK.out _ _ kB (fun hHeld => ?_)
      clear hK K hHeld
      (try simp only [Act.put, List.setIfInBounds_toArray, List.set_cons_zero, List.set_cons_succ])
      refine wpAnyH_done (by kernel_rfl) ?_ _
      refine NoPanic.normal ?_
      have H2 := yC
      have HG2 := yG
      clear kB kF yC yG
      go_wp2
      go_ret2
      exact ⟨⟨_, by rw [hr.out]; rfl, fun v r e => by rw [hr.out] at e; cases e⟩, HG2.out, k + n, by omega, by rw [hr.out]; rfl, H2.out⟩
    refine AllReadyH.cons (by simp only [List.getElem?_toArray, List.getElem?_cons_succ, List.getElem?_cons_zero]; rfl) (fun K hK => ?_) AllReadyH.nil
    try go_simp
    refine (HB2.out _ (H1.out.below kF)).mono ?_
    rintro e w2 ⟨rfl, b2⟩
    replace kF := kF.trans (b2.mono kF.size)
    replace kB := kF.mono (Nat.le_of_lt lt)
    clear b2
    refine hK.out _ _ kB (fun hHeld => ?_)
    clear hK K hHeld
    (try simp only [Act.put, List.setIfInBounds_toArray, List.set_cons_zero, List.set_cons_succ])
    refine wpAnyH_ready (rs := [3]) (by kernel_rfl) (by simp) ?_
    refine AllReadyH.cons (by simp only [List.getElem?_toArray, List.getElem?_cons_succ, List.getElem?_cons_zero]; rfl) (fun K hK => ?_) AllReadyH.nil
    obtain ⟨y0, y1, yf, yl, -, -⟩ := H1.out.below kF
    go_simp
    clear y0 y1 yf yl
    refine hK.out _ _ kB (fun hHeld => ?_)
    clear hK K hHeld
    (try simp only [Act.put, List.setIfInBounds_toArray, List.set_cons_zero, List.set_cons_succ])
    refine tk9 11 kB ?_
    refine tk9 12 kB ?_
    refine tk9 13 kB ?_
    refine wpAnyH_ready (rs := [14]) (by kernel_rfl) (by simp) ?_
    refine AllReadyH.cons (by simp only [List.getElem?_toArray, List.getElem?_cons_succ, List.getElem?_cons_zero]; rfl) (fun K hK => ?_) AllReadyH.nil
    have yC := Lib.hid ((H1.out.below kF).move (k + n) hkn)
    have yG := Lib.hid (sc_set (v := .int .i64 (k + n : Nat)) (i := 1) (sc_trans HG1.out (sc_below kF _)))
    obtain ⟨y0, y1, yf, yl, -, -⟩ := H1.out.below kF
    go_simp
    replace kB := Below.setCell kB (p := ⟨b, 1, none⟩) (Nat.le_refl _) (.int .i64 (k + n : Nat))
    clear y0 y1 yf yl
    refine hK.out _ _ kB (fun hHeld => ?_)
    clear hK K hHeld
    (try simp only [Act.put, List.setIfInBounds_toArray, List.set_cons_zero, List.set_cons_succ])
    refine wpAnyH_done (by kernel_rfl) ?_ _
    refine NoPanic.normal ?_
    have H2 := yC
    have HG2 := yG
    clear kB kF yC yG
    go_wp2
    go_ret2
    exact ⟨⟨_, by rw [hr.out]; rfl, fun v r e => by rw [hr.out] at e; cases e⟩, HG2.out, k + n, by omega, by rw [hr.out]; rfl, H2.out⟩

end Go.Proofs.YthniemoganoapaaDoor
