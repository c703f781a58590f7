/- The walks of the cursor's part and text of package openword (layer 17). -/
import Derived.Test.YthniemoganoapaaDoorOpC
set_option maxRecDepth 100000
set_option linter.unusedVariables false
set_option linter.unusedSimpArgs false
namespace Go.Proofs.YthniemoganoapaaDoor
open Go.RowKit
attribute [local go_sem ↓] Go.wp_at_zero Go.wp_at_succ

/-- the marks of a text, as the code and the document have them -/
structure TextK (set stop oset : Nat) (e : UInt8) (bad marks : List UInt8) : Prop where
  l1 : set < 256
  l2 : stop < 256
  l3 : oset < 256
  a1 : bits .andNot .u8 (set : Int) 64 = (stop : Int)
  a2 : bits .andNot .u8 (set : Int) 128 = (oset : Int)
  f1 : ∀ c, Ow.inS stop c = (decide (c = e) || bad.contains c)
  f2 : ∀ d, marks.contains d = (decide (d = 110) || Ow.inS oset d)
  f3 : Ow.inS stop 92 = false
  ne : (92 : UInt8) ≠ e
theorem text_v : TextK 224 160 96 34 [10] [92, 34, 110] :=
  ⟨by decide, by decide, by decide, by decide +kernel, by decide +kernel, fun c => by rw [Ow.in160]; simp, fun d => by rw [Ow.in96]; simp [Bool.or_comm, Bool.or_left_comm, Bool.or_assoc], by rw [Ow.in160]; decide, by decide⟩
theorem text_h : TextK 192 128 64 10 [] [92, 110] :=
  ⟨by decide, by decide, by decide, by decide +kernel, by decide +kernel, fun c => by rw [Ow.in128]; simp, fun d => by rw [Ow.in64]; simp [Bool.or_comm], by rw [Ow.in128]; decide, by decide⟩
namespace Ow
theorem part_scal {marks l : List UInt8} (h : l ≠ []) (h2 : ¬ l.head? = some 92) : part marks l = scal l := by
  cases l with
  | nil => exact absurd rfl h
  | cons c l => unfold part scal; simp only []; rw [if_neg (by simpa using h2)]
theorem part_esc {marks : List UInt8} {oset : Nat} (f2 : ∀ d, marks.contains d = (decide (d = 110) || inS oset d)) (l : List UInt8) :
    part marks (92 :: l) = if l.head? = some 110 then .ok [10] l.tail else one oset l := by
  unfold part
  simp only [if_true]
  cases l with
  | nil => rfl
  | cons d r =>
    by_cases h : d = 110
    · subst h
      rw [if_pos (show (110 :: r).head? = some 110 from rfl)]
      simp only [f2]; simp
    · rw [if_neg (show ¬ (d :: r).head? = some 110 by simpa using h)]
      have := f2 d
      rw [decide_eq_false h, Bool.false_or] at this
      simp only [this, one, if_neg h]
theorem part_len {marks l v r : List UInt8} (h : part marks l = .ok v r) : v.length + r.length ≤ l.length ∧ r.length < l.length := by
  cases l with
  | nil => cases h
  | cons c l =>
    unfold part at h
    simp only [] at h
    split at h
    · split at h
      · cases h
      · split at h
        · injection h with h1 h2
          subst h1; subst h2; simp only [List.length_cons, List.length_nil]; omega
        · cases h
    · split at h
      · next hw =>
        have hp := Utf.front_whole hw
        have hle := (Utf.front_le (c :: l)).1
        injection h with h1 h2
        subst h1; subst h2
        rw [List.length_take, List.length_drop]; omega
      · cases h
end Ow

set_option maxHeartbeats 8000000 in
theorem opart_calls {set stop oset : Nat} {e0 : UInt8} {bad marks : List UInt8} (K : TextK set stop oset e0 bad marks) (b k : Nat) (s : List UInt8) (w : World) (h : Cur w b s k) (hs : s.length ≤ maxLen) (hk : k < s.length) :
    Calls Tryd.prog 66 #[.pointer (some ⟨b, 0, none⟩), .int .u8 (set : Nat)] w fun e w' =>
      (∃ x, e = .returned (.tuple #[.string x, .bool (Ow.okB (Ow.part marks (s.drop k)))]) ∧ ∀ v r, Ow.part marks (s.drop k) = .ok v r → x = str v) ∧ w.grownBy w' (some b) ∧ Took w' b s k (Ow.part marks (s.drop k)) := by
  have HT := Lib.hid (fun (t : UInt8) j W (hW : Cur W b s j) => take_calls t b j s W hW hs)
  have HO := Lib.hid (fun j W (hW : Cur W b s j) => one_calls oset b j s W K.l3 hW hs)
  have HS := Lib.hid (fun W (hW : Cur W b s k) => oscalar_calls b k s W hW hs hk)
  have H := Lib.hid h
  have HG := Lib.hid (sc_below (Below.refl w.heap.size w) (some b))
  have ha2 := K.a2
  have HF := Lib.hid K.f2
  obtain ⟨o, ho⟩ : ∃ o, o = Ow.part marks (s.drop k) := ⟨_, rfl⟩
  rw [← ho]
  have HP := Lib.hid ho
  have hne := Lib.hid (Utf.drop_ne hk)
  clear ho K h
  go_enter Tryd.func66, Tryd.ntmps66
  go_wp2_with fail
  refine (HT.out 92 k w H.out).mono ?_; rintro e w1 ⟨rfl, g1, j, hkj, hj, H1⟩
  rw [Ow.lit1_rest] at hj
  rw [Ow.lit1_okB]
  have H1 := Lib.hid H1
  have HG1 := Lib.hid (sc_trans HG.out g1)
  clear g1 H HG
  by_cases q : (s.drop k).head? = some 92
  · rw [if_pos q] at hj
    rw [decide_eq_true q]
    have HP2 := Lib.hid (show o = if (s.drop j).head? = some 110 then .ok [10] (s.drop j).tail else Ow.one oset (s.drop j) by
      have h9 := HP.out; rw [Ow.head_some q, hj] at h9; exact h9.trans (Ow.part_esc HF.out _))
    clear q hj HP HF hne HS
    go_wp2_with fail
    refine (HT.out 110 j w1 H1.out).mono ?_; rintro e w2 ⟨rfl, g2, i, hji, hi, H2⟩
    rw [Ow.lit1_rest] at hi
    rw [Ow.lit1_okB]
    have H2 := Lib.hid H2
    have HG2 := Lib.hid (sc_trans HG1.out g2)
    clear g2 H1 HG1
    by_cases q : (s.drop j).head? = some 110
    · rw [if_pos q] at hi HP2
      rw [decide_eq_true q]
      have hr := Lib.hid (show o = .ok [10] (s.drop i) by rw [HP2.out, hi])
      clear q hi HP2
      go_wp2
      go_ret2
      exact ⟨⟨_, by rw [hr.out]; rfl, fun v r e => by rw [hr.out] at e; injection e with e1 e2; rw [← e1]⟩, HG2.out, i, by omega, by rw [hr.out]; rfl, H2.out⟩
    · rw [if_neg q] at hi HP2
      rw [decide_eq_false q]
      have hr := Lib.hid (show o = Ow.one oset (s.drop i) by rw [HP2.out, hi])
      have hO := HO.out i w2 H2.out
      rw [← hr.out] at hO
      clear q hi HP2
      go_wp2_with fail
      refine hO.mono ?_; rintro e w3 ⟨⟨x, rfl, hx⟩, g3, T3⟩
      have HX := Lib.hid hx
      have HG3 := Lib.hid (sc_trans HG2.out g3)
      have HT3 := Lib.hid (T3.to (by omega) rfl : Took w3 b s k o)
      clear hO hx g3 T3
      go_wp2
      go_ret2
      exact ⟨⟨x, rfl, HX.out⟩, HG3.out, HT3.out⟩
  · rw [if_neg q] at hj
    rw [decide_eq_false q]
    have hjk : k = j := by
      have := congrArg List.length hj
      rw [List.length_drop, List.length_drop] at this
      have := H1.out.le
      omega
    subst hjk
    have hr := Lib.hid (show o = Ow.scal (s.drop k) by rw [HP.out]; exact Ow.part_scal hne.out q)
    have hS := HS.out w1 H1.out
    rw [← hr.out] at hS
    clear q hj HP HF hne HS
    go_wp2_with fail
    refine hS.mono ?_; rintro e w3 ⟨⟨x, rfl, hx⟩, g3, T3⟩
    have HX := Lib.hid hx
    have HG3 := Lib.hid (sc_trans HG1.out g3)
    have HT3 := Lib.hid T3
    clear hS hx g3 T3
    go_wp2
    go_ret2
    exact ⟨⟨x, rfl, HX.out⟩, HG3.out, HT3.out⟩

theorem Cur.belowB {w w' : World} {b B : Nat} {s : List UInt8} {k : Nat} (h : Cur w b s k) (hb : Below B w w') (hB : b < B) : Cur w' b s k :=
  ⟨(hb.cell (p := ⟨b, 0, none⟩) hB).trans h.c0, (hb.cell (p := ⟨b, 1, none⟩) hB).trans h.c1, fun o => (hb.frozen (p := ⟨b, o, none⟩) hB).trans (h.fr o), Nat.lt_of_lt_of_le h.lt hb.size, h.le, h.tab.kept (fun j hj => hb.block j (by omega))⟩
theorem gr_belowB {w wr w' : World} {row : Option Nat} (h : w.grownBy wr row) (hb : Below w.heap.size wr w') : w.grownBy w' row :=
  ⟨hb.os.trans h.os, hb.tape.trans h.tape, hb.output.trans h.output, Nat.le_trans h.size hb.size, fun j hj hne => (hb.block j hj).trans (h.block j hj hne)⟩
theorem isb_grown {T e B b c : Nat} {bs : List Value} {w w' : World} (h : Lib.IsBuilder T e B b bs w) (hg : w.grownBy w' (some c)) (hc : c < B) : Lib.IsBuilder T e B b bs w' := by
  have key : ∀ p, Lib.BuilderAt T e B b p bs w → Lib.BuilderAt T e B b p bs w' := fun p k => by
    obtain ⟨hB, v, h1, h2, h3⟩ := k
    refine ⟨hB, v, by rw [hg.block b (Array.getElem?_eq_some_iff.1 h1).1 (by intro e; injection e; omega)]; exact h1, h2.kept hg (Or.inr fun e => ?_), h3⟩
    have := own_ge h2 _ e
    omega
  rcases h with h | h
  · exact Or.inl (key _ h)
  · exact Or.inr (key _ h)
theorem isb_tx {B b : Nat} {l r : List UInt8} {w : World} (h : Lib.BuilderAt 74 5 B b (.pointer (some ⟨b, 0, none⟩)) (Lib.byteCells l ++ Lib.strCells (str r)) w) : Lib.IsBuilder 74 5 B b (Lib.byteCells (l ++ r)) w := by
  rw [Lib.strCells_eq, ← Lib.byteCells_append] at h; exact Or.inr h
theorem isb_kp {T e B b : Nat} {bs : List Value} {w w' : World} (h : Lib.IsBuilder T e B b bs w) (hb : Below w.heap.size w w') : Lib.IsBuilder T e B b bs w' := by
  have key : ∀ p, Lib.BuilderAt T e B b p bs w → Lib.BuilderAt T e B b p bs w' := fun p k => by
    obtain ⟨hB, v, h1, h2, h3⟩ := k
    exact ⟨hB, v, by rw [hb.block b (Array.getElem?_eq_some_iff.1 h1).1]; exact h1, own_below h2 hb, h3⟩
  rcases h with h | h
  · exact Or.inl (key _ h)
  · exact Or.inr (key _ h)

set_option maxHeartbeats 8000000 in
theorem otext_calls {set stop oset : Nat} {e0 : UInt8} {bad marks : List UInt8} (K : TextK set stop oset e0 bad marks) (b k : Nat) (s : List UInt8) (w : World) (h : Cur w b s k) (hs : s.length ≤ 1000000) :
    Calls Tryd.prog 63 #[.pointer (some ⟨b, 0, none⟩), .int .u8 (set : Nat)] w fun e w' =>
      (∃ x t, e = .returned (.tuple #[.string x, .bool t]) ∧ (∀ v r, Ow.str e0 bad marks 110 (s.drop k) = .ok v r → t = true ∧ x = str v) ∧ (∀ r, Ow.str e0 bad marks 110 (s.drop k) = .fell r → t = true → ¬ r.head? = some e0)) ∧
      w.grownBy w' (some b) ∧ Took w' b s k (Ow.str e0 bad marks 110 (s.drop k)) := by
  have hss := str_size s
  have hm : s.length ≤ maxLen := by unfold maxLen; omega
  have HSee := Lib.hid (fun j W (hW : Cur W b s j) => sees_quiet stop b j s W K.l2 hW hm)
  have HPart := Lib.hid (fun j W (hW : Cur W b s j) (hj : j < s.length) => opart_calls K b j s W hW hm hj)
  have H0 := Lib.hid (Lib.fresh_isBuilder 74 5 w)
  have B0 := (Below.refl w.heap.size w).alloc (Nat.le_refl _) (.cells #[.pointer none, .slice none 0 0] 74)
  have HC0 := Lib.hid (h.below B0)
  have HG0 := Lib.hid (sc_below B0 (some b))
  have ha1 := K.a1
  have HK := Lib.hid K
  have hlt := h.lt
  clear h K hm B0
  obtain ⟨o, ho⟩ : ∃ o, o = Ow.str e0 bad marks 110 (s.drop k) := ⟨_, rfl⟩
  rw [← ho]
  have HP := Lib.hid (show o = (Ow.str e0 bad marks 110 (s.drop k)).map ([] ++ ·) by rw [ho]; cases Ow.str e0 bad marks 110 (s.drop k) <;> rfl)
  clear ho
  go_enter Tryd.func63, Tryd.ntmps63
  go_wp2_with fail
  go_loopg [25] (s.length - k) (fun g _ wr => ∃ (i : Nat) (out : List UInt8), g = s.length - i ∧ k ≤ i ∧ out.length ≤ i ∧ Hid (Cur wr b s i) ∧ Hid (w.grownBy wr (some b)) ∧ Hid (Lib.IsBuilder 74 5 w.heap.size w.heap.size (Lib.byteCells out) wr) ∧ Hid (o = (Ow.str e0 bad marks 110 (s.drop i)).map (out ++ ·)))
  case atStart => exact ⟨k, [], rfl, Nat.le_refl _, Nat.zero_le _, HC0, HG0, H0, HP⟩
  case round =>
    clear HP HC0 HG0 H0
    obtain ⟨i, out, hg, hki, hout, H, HG, HI, HP⟩ := hrel
    have HGg := Lib.hid hg
    clear hg
    obtain ⟨c0, c1, fr, lt, le, -⟩ := H.out
    have hS := HSee.out i
    by_cases hi : i < s.length
    · have d1 : decide ((i : Int) < (s.length : Int)) = true := decide_eq_true (by omega)
      have hS := Lib.hid (fun n => hS (wr.drewN n) (H.out.drewN n))
      obtain ⟨c, hc⟩ : ∃ c, s.drop i = c :: s.drop (i + 1) := ⟨_, List.drop_eq_getElem_cons hi⟩
      have hsc : Ow.sees stop (s.drop i) = Ow.inS stop c := by rw [hc]; rfl
      have HF := Lib.hid (HK.out.f1 c)
      have HF3 := Lib.hid HK.out.f3
      have HNe := Lib.hid HK.out.ne
      rw [hsc] at hS
      clear hsc
      cases q : Ow.inS stop c with
      | true =>
        rw [q] at hS HF
        have hr : Hid (if c = e0 then o = .ok out (s.drop i) else o = .fell (s.drop i) ∧ ¬ (s.drop i).head? = some e0) := Lib.hid (by
          have hc92 : c ≠ 92 := by intro e; rw [e] at q; rw [HF3.out] at q; cases q
          by_cases e : c = e0
          · rw [if_pos e, HP.out, hc, e, Ow.str_end]
            show Ow.Out.ok (out ++ []) _ = _
            rw [List.append_nil]
          · rw [if_neg e]
            have hb : bad.contains c = true := by have := HF.out; rw [decide_eq_false e, Bool.false_or] at this; exact this.symm
            rw [HP.out, hc, Ow.str_bad e hc92 hb]
            exact ⟨rfl, by simpa using e⟩)
        clear q hc HF HF3 HNe HP HPart
        go_upto_region 2 with fail
        go_quiet ((go_at_call 59; exact Calls.quiet_of (hS.out _)))
        have HI2 := Lib.hid (isb_kp HI.out (below_drewN (Below.refl _ _) nq))
        have H2 := Lib.hid (H.out.drewN nq)
        have HG2 := Lib.hid (sc_drewN HG.out nq)
        go_wp2_with fail
        refine (bstring_calls w.heap.size w.heap.size _ _ HI2.out HG2.out.size).mono ?_; rintro e w4 ⟨rfl, b4⟩
        have H4 := Lib.hid (H2.out.belowB b4 hlt)
        have HG4 := Lib.hid (gr_belowB HG2.out b4)
        clear b4 H2 HG2 H HG HI HI2
        go_wp2
        go_ret2
        by_cases e : c = e0
        · have hr := hr.out
          rw [if_pos e] at hr
          exact ⟨⟨_, _, rfl, fun v r e => by rw [hr] at e; injection e with e1 e2; rw [← e1]; exact ⟨rfl, rfl⟩, fun r e => (by rw [hr] at e; cases e)⟩, HG4.out, i, hki, by rw [hr]; rfl, H4.out⟩
        · have hr := hr.out
          rw [if_neg e] at hr
          exact ⟨⟨_, _, rfl, fun v r e => (by rw [hr.1] at e; cases e), fun r e _ => by rw [hr.1] at e; injection e with e1; rw [← e1]; exact hr.2⟩, HG4.out, i, hki, by rw [hr.1]; rfl, H4.out⟩
      | false =>
        rw [q] at hS HF
        have HP2 := Lib.hid (show o = ((Ow.part marks (s.drop i)).bind fun v r' => (Ow.str e0 bad marks 110 r').map (v ++ ·)).map (out ++ ·) by
          rw [HP.out, hc]
          have h1 := HF.out.symm
          rw [Bool.or_eq_false_iff, decide_eq_false_iff_not] at h1
          rw [Ow.str_part h1.1 HNe.out h1.2])
        clear q hc HF HF3 HNe HP
        go_upto_region 2 with fail
        go_quiet ((go_at_call 59; exact Calls.quiet_of (hS.out _)))
        have HI2 := Lib.hid (isb_kp HI.out (below_drewN (Below.refl _ _) nq))
        have HG2 := Lib.hid (sc_drewN HG.out nq)
        have hPa := HPart.out i (wr.drewN nq) (H.out.drewN nq) hi
        clear HG HI H
        cases hP : Ow.part marks (s.drop i) with
        | fell r =>
          rw [hP] at hPa HP2
          have hr := Lib.hid (show o = .fell r from HP2.out)
          clear HP2
          go_wp2_with fail
          refine hPa.mono ?_; rintro e w3 ⟨⟨x, rfl, hx⟩, g3, m, him, hm, H3⟩
          have HR := Lib.hid (show r = s.drop m from hm)
          have HG3 := Lib.hid (sc_trans HG2.out g3)
          have H3 := Lib.hid H3
          clear hx g3 hm hPa hP
          go_wp2
          go_ret2
          exact ⟨⟨_, _, rfl, fun v r e => (by rw [hr.out] at e; cases e), fun r e ht => (by cases ht)⟩, HG3.out, m, by omega, by rw [hr.out]; exact HR.out, H3.out⟩
        | ok v r =>
          rw [hP] at hPa HP2
          have hln := Ow.part_len hP
          have HP3 := Lib.hid (show o = (Ow.str e0 bad marks 110 r).map ((out ++ v) ++ ·) by
            have e : o = ((Ow.str e0 bad marks 110 r).map (v ++ ·)).map (out ++ ·) := HP2.out
            rw [e]; cases Ow.str e0 bad marks 110 r <;> simp [Ow.Out.map])
          clear HP2
          go_wp2_with fail
          refine hPa.mono ?_; rintro e w3 ⟨⟨x, rfl, hx⟩, g3, m, him, hm, H3⟩
          obtain rfl : r = s.drop m := hm
          obtain rfl : x = str v := hx v _ rfl
          rw [List.length_drop, List.length_drop] at hln
          have HG3 := Lib.hid (sc_trans HG2.out g3)
          have HI3 := Lib.hid (isb_grown HI2.out g3 hlt)
          have H3 := Lib.hid H3
          have hml := H3.out.le
          clear hx g3 hPa hP HI2 HG2
          go_wp2_with fail
          refine (bwrite_calls w.heap.size w.heap.size _ _ _ HI3.out (by rw [Lib.byteCells_length, str_size]; omega) HG3.out.size).mono ?_; rintro e w4 ⟨rfl, h4, b4⟩
          have HI4 := Lib.hid (isb_tx h4)
          have H4 := Lib.hid (H3.out.belowB b4 hlt)
          have HG4 := Lib.hid (gr_belowB HG3.out b4)
          clear h4 b4 HI3 HG3 H3
          go_wp2_with fail
          go_roundg (s.length - m)
          case measure => have := HGg.out; omega
          case rel => exact ⟨m, out ++ v, rfl, by omega, by rw [List.length_append]; omega, H4, HG4, HI4, HP3⟩
    · have d1 : decide ((i : Int) < (s.length : Int)) = false := decide_eq_false (by omega)
      have hr := Lib.hid (show o = .fell (s.drop i) by rw [HP.out, List.drop_eq_nil_iff.2 (by omega), Ow.str_nil]; rfl)
      have hd := Lib.hid (show s.drop i = [] from List.drop_eq_nil_iff.2 (by omega))
      clear HP HPart hS
      go_upto_region 2 with fail
      go_quiet (fail)
      have HI2 := Lib.hid (isb_kp HI.out (below_drewN (Below.refl _ _) nq))
      have H2 := Lib.hid (H.out.drewN nq)
      have HG2 := Lib.hid (sc_drewN HG.out nq)
      go_wp2_with fail
      refine (bstring_calls w.heap.size w.heap.size _ _ HI2.out HG2.out.size).mono ?_; rintro e w4 ⟨rfl, b4⟩
      have H4 := Lib.hid (H2.out.belowB b4 hlt)
      have HG4 := Lib.hid (gr_belowB HG2.out b4)
      clear b4 H2 HG2 H HG HI HI2
      go_wp2
      go_ret2
      exact ⟨⟨_, _, rfl, fun v r e => (by rw [hr.out] at e; cases e), fun r e _ => by rw [hr.out] at e; injection e with e1; rw [← e1, hd.out]; simp⟩, HG4.out, i, hki, by rw [hr.out]; rfl, H4.out⟩

end Go.Proofs.YthniemoganoapaaDoor
