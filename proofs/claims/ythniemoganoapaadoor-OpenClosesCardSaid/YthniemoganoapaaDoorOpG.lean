/- The walks of the cursor's remark and sample of package openword (layer 17). -/
import Derived.Test.YthniemoganoapaaDoorOpF
set_option maxRecDepth 100000
set_option linter.unusedVariables false
set_option linter.unusedSimpArgs false
namespace Go.Proofs.YthniemoganoapaaDoor
open Go.RowKit
attribute [local go_sem ↓] Go.wp_at_zero Go.wp_at_succ

theorem RwAt.set7 {w : World} {c : Nat} {x : Rs} (h : RwAt w c x) (n : Bool) : RwAt (w.setCell ⟨c, 7, none⟩ (.bool n)) c ({ x.1 with td := n }, x.2) := by
  obtain ⟨h0, h1, h2, h3, h4, h5, h6, h7, h8, h9, hf, hl⟩ := h
  exact ⟨by go_simp, by go_simp, by go_simp, by go_simp, by go_simp, by go_simp, by go_simp, by go_simp, by go_simp, by go_simp, fun o => by go_simp, by simpa [World.setCell] using hl⟩
theorem RwAt.set8 {w : World} {c : Nat} {x : Rs} (h : RwAt w c x) (n : List UInt8) : RwAt (w.setCell ⟨c, 8, none⟩ (.string (str n))) c ({ x.1 with tm := n }, x.2) := by
  obtain ⟨h0, h1, h2, h3, h4, h5, h6, h7, h8, h9, hf, hl⟩ := h
  exact ⟨by go_simp, by go_simp, by go_simp, by go_simp, by go_simp, by go_simp, by go_simp, by go_simp, by go_simp, by go_simp, fun o => by go_simp, by simpa [World.setCell] using hl⟩
theorem RwAt.set9 {w : World} {c : Nat} {x : Rs} (h : RwAt w c x) (n : Nat) : RwAt (w.setCell ⟨c, 9, none⟩ (.int .i64 (n : Nat))) c ({ x.1 with wh := n }, x.2) := by
  obtain ⟨h0, h1, h2, h3, h4, h5, h6, h7, h8, h9, hf, hl⟩ := h
  exact ⟨by go_simp, by go_simp, by go_simp, by go_simp, by go_simp, by go_simp, by go_simp, by go_simp, by go_simp, by go_simp, fun o => by go_simp, by simpa [World.setCell] using hl⟩
/-- within a row's line: the cursor at k, the row so far, its tags -/
structure SmAt (w0 W : World) (b br : Nat) (s : List UInt8) (k : Nat) (x : Ow.Rw) (v : Value) (L : List Ow.Tg) : Prop where
  C : Cur W b s k
  R : RwAt W br (x, v)
  G : Gr2 w0 W b br
  T : TgOwn W w0.heap.size v L
  l1 : b < br
  l2 : br < w0.heap.size
theorem SmAt.call {w0 W W' : World} {b br : Nat} {s : List UInt8} {k k' : Nat} {x : Ow.Rw} {v : Value} {L : List Ow.Tg} (h : SmAt w0 W b br s k x v L) (g : W.grownBy W' (some b)) (c : Cur W' b s k') : SmAt w0 W' b br s k' x v L :=
  ⟨c, h.R.grown g (by intro e; injection e with e; have := h.l1; omega), h.G.one g (fun q e => by injection e with e; exact Or.inl e.symm), ko_grown h.T g (Nat.lt_trans h.l1 h.l2), h.l1, h.l2⟩
theorem SmAt.sto {w0 W : World} {b br : Nat} {s : List UInt8} {k i : Nat} {x y : Ow.Rw} {v u : Value} {L : List Ow.Tg} (h : SmAt w0 W b br s k x v L) (r : RwAt (W.setCell ⟨br, i, none⟩ u) br (y, v)) : SmAt w0 (W.setCell ⟨br, i, none⟩ u) b br s k y v L :=
  have g : W.grownBy (W.setCell ⟨br, i, none⟩ u) (some br) := sc_set (sc_below (Below.refl _ _) _)
  ⟨h.C.set h.l1, r, h.G.one g (fun q e => by injection e with e; exact Or.inr (Or.inl e.symm)), ko_grown h.T g h.l2, h.l1, h.l2⟩
theorem SmAt.tags {w0 W W' : World} {b br : Nat} {s : List UInt8} {k k' : Nat} {x : Ow.Rw} {v u : Value} {L M : List Ow.Tg} (h : SmAt w0 W b br s k x v L) (g : W.grownBy W' (some b)) (c : Cur W' b s k') (t : TgOwn W' w0.heap.size u M) : SmAt w0 (W'.setCell ⟨br, 3, none⟩ u) b br s k' { x with tags := M } u M := by
  have h2 := h.call g c
  have g2 : W'.grownBy (W'.setCell ⟨br, 3, none⟩ u) (some br) := sc_set (sc_below (Below.refl _ _) _)
  exact ⟨c.set h.l1, h2.R.set3 u M, h2.G.one g2 (fun q e => by injection e with e; exact Or.inr (Or.inl e.symm)), ko_grown t g2 h.l2, h.l1, h.l2⟩
/-- what a row's line leaves behind it -/
def SmP (w0 : World) (b br : Nat) (s : List UInt8) (k : Nat) (o : Ow.Out Ow.Rw) (e : Ending) (w' : World) : Prop :=
  ∃ x A n cap L t, e = .returned (.bool t) ∧ (∃ j, k ≤ j ∧ o.rest = s.drop j ∧ SmAt w0 w' b br s j x (.slice A n cap) L) ∧ (∀ R r, o = .ok R r → t = true ∧ x = R ∧ L = R.tags) ∧ (∀ r, o = .fell r → t = true → ¬ r.head? = some 10)

namespace Ow
/-- the text of a row that is no sample, as the code reads it -/
theorem text_12 (k : Int) (h : k = 1 ∨ k = 2) (l : List UInt8) : text k l = many (if k = 1 then 1 else 31) l := by
  rcases h with rfl | rfl
  · unfold text; rw [if_pos rfl, if_pos rfl, many_run in1]
  · unfold text; rw [if_neg (by decide), if_pos rfl, if_neg (by decide), many_run in31]
theorem text_3 (l : List UInt8) : text 3 l = str 10 [] [92, 110] 110 l := by unfold text; rw [if_neg (by decide), if_neg (by decide)]
end Ow

set_option maxHeartbeats 16000000 in
theorem oremark_calls (b br k : Nat) (s : List UInt8) (w : World) (kd : Int) (hkd : kd = 1 ∨ kd = 2 ∨ kd = 3) (nm : List UInt8) (off : Nat) (h : SmAt w w b br s k ⟨kd, nm, off, [], [], 0, false, [], 0⟩ (.slice none 0 0) []) (hs : s.length ≤ 1900) :
    Calls Tryd.prog 54 #[.pointer (some ⟨b, 0, none⟩), .pointer (some ⟨br, 0, none⟩)] w fun e w' => SmP w b br s k (Ow.body1 kd s.length off nm (s.drop k)) e w' := by
  have hm : s.length ≤ maxLen := by unfold maxLen; omega
  have HT := Lib.hid (fun (t : UInt8) j W (hW : Cur W b s j) => take_calls t b j s W hW hm)
  have HM := Lib.hid (fun set j W (hs : set < 256) (hW : Cur W b s j) => many_calls set b j s W hs hW hm)
  have HX := Lib.hid (fun j W (hW : Cur W b s j) => otext_calls text_h b j s W hW (by omega))
  obtain ⟨o, ho⟩ : ∃ o, o = Ow.body1 kd s.length off nm (s.drop k) := ⟨_, rfl⟩
  rw [← ho]
  have HO := Lib.hid (show o = (Ow.lit [32] (s.drop k)).bind fun _ r2 => (Ow.text kd r2).bind fun tx r3 => .ok ⟨kd, nm, off, [], tx, s.length - r2.length, false, [], 0⟩ r3 from ho)
  have S := Lib.hid h
  clear ho hm h
  go_enter Tryd.func54, Tryd.ntmps54
  go_wp2_with fail
  refine (HT.out 32 k w S.out.C).mono ?_; rintro e w1 ⟨rfl, g1, j, hkj, hj, H1⟩
  have S1 := Lib.hid (S.out.call g1 H1)
  clear g1 H1 S
  cases hP : Ow.lit [32] (s.drop k) with
  | fell r =>
    rw [hP] at hj HO
    obtain rfl : r = s.drop j := hj
    have hr := Lib.hid (show o = .fell (s.drop j) from HO.out)
    clear HO hP
    go_wp2
    go_ret
    exact ⟨_, _, _, _, _, false, rfl, ⟨j, hkj, by rw [hr.out]; rfl, S1.out⟩, fun R r e => (by rw [hr.out] at e; cases e), fun r e ht => (by cases ht)⟩
  | ok u r =>
    rw [hP] at hj HO
    obtain rfl : r = s.drop j := hj
    have HO2 := Lib.hid (show o = (Ow.text kd (s.drop j)).bind fun tx r3 => .ok ⟨kd, nm, off, [], tx, s.length - (s.drop j).length, false, [], 0⟩ r3 from HO.out)
    have hjl := S1.out.C.le
    rw [show s.length - (s.drop j).length = j by rw [List.length_drop]; omega] at HO2
    clear HO hP
    obtain ⟨c0, c1, cf, cl, -, -⟩ := S1.out.C
    obtain ⟨z0, z1, z2, z3, z4, z5, z6, z7, z8, z9, zf, zl⟩ := S1.out.R
    have S2 := Lib.hid (S1.out.sto (S1.out.R.set6 j))
    clear S1
    rcases hkd with rfl | rfl | rfl
    · rw [Ow.text_12 _ (by omega)] at HO2
      rw [if_pos rfl] at HO2
      go_wp2_with fail
      clear z0 z1 z2 z3 z4 z5 z6 z7 z8 z9 zf zl c0 c1 cf cl
      refine (HM.out 1 j _ (by decide) S2.out.C).mono ?_; rintro e w3 ⟨⟨x, rfl, hx⟩, g3, j3, hj3, hd3, H3⟩
      obtain ⟨tx, rfl⟩ := text_is x
      have S3 := Lib.hid (S2.out.call g3 H3)
      have S4 := Lib.hid (S3.out.sto (S3.out.R.set5 tx))
      obtain ⟨z0, z1, z2, z3, z4, z5, z6, z7, z8, z9, zf, zl⟩ := S3.out.R
      clear g3 H3 S2 S3
      go_wp2
      go_ret
      refine ⟨_, _, _, _, _, _, rfl, ⟨j3, by omega, ?_, S4.out⟩, fun R r e => ?_, fun r e ht => ?_⟩
      · rw [HO2.out, ← hd3]; cases Ow.many 1 (s.drop j) <;> rfl
      · rw [HO2.out] at e
        cases hq : Ow.many 1 (s.drop j) with
        | fell r => rw [hq] at e; cases e
        | ok v r =>
          rw [hq] at e
          obtain rfl := str_inj (hx v r hq)
          injection e with e1 e2
          exact ⟨rfl, e1, by rw [← e1]⟩
      · rw [HO2.out] at e
        cases hq : Ow.many 1 (s.drop j) with
        | fell r => rw [hq] at ht; cases ht
        | ok v r => rw [hq] at e; cases e
    · rw [Ow.text_12 _ (by omega)] at HO2
      rw [if_neg (by decide)] at HO2
      go_wp2_with fail
      clear z0 z1 z2 z3 z4 z5 z6 z7 z8 z9 zf zl c0 c1 cf cl
      refine (HM.out 31 j _ (by decide) S2.out.C).mono ?_; rintro e w3 ⟨⟨x, rfl, hx⟩, g3, j3, hj3, hd3, H3⟩
      obtain ⟨tx, rfl⟩ := text_is x
      have S3 := Lib.hid (S2.out.call g3 H3)
      have S4 := Lib.hid (S3.out.sto (S3.out.R.set5 tx))
      obtain ⟨z0, z1, z2, z3, z4, z5, z6, z7, z8, z9, zf, zl⟩ := S3.out.R
      clear g3 H3 S2 S3
      go_wp2
      go_ret
      refine ⟨_, _, _, _, _, _, rfl, ⟨j3, by omega, ?_, S4.out⟩, fun R r e => ?_, fun r e ht => ?_⟩
      · rw [HO2.out, ← hd3]; cases Ow.many 31 (s.drop j) <;> rfl
      · rw [HO2.out] at e
        cases hq : Ow.many 31 (s.drop j) with
        | fell r => rw [hq] at e; cases e
        | ok v r =>
          rw [hq] at e
          obtain rfl := str_inj (hx v r hq)
          injection e with e1 e2
          exact ⟨rfl, e1, by rw [← e1]⟩
      · rw [HO2.out] at e
        cases hq : Ow.many 31 (s.drop j) with
        | fell r => rw [hq] at ht; cases ht
        | ok v r => rw [hq] at e; cases e
    · rw [Ow.text_3] at HO2
      go_wp2_with fail
      clear z0 z1 z2 z3 z4 z5 z6 z7 z8 z9 zf zl c0 c1 cf cl
      refine (HX.out j _ S2.out.C).mono ?_; rintro e w3 ⟨⟨x, t, rfl, hx1, hx2⟩, g3, j3, hj3, hd3, H3⟩
      obtain ⟨tx, rfl⟩ := text_is x
      have S3 := Lib.hid (S2.out.call g3 H3)
      have S4 := Lib.hid (S3.out.sto (S3.out.R.set5 tx))
      obtain ⟨z0, z1, z2, z3, z4, z5, z6, z7, z8, z9, zf, zl⟩ := S3.out.R
      clear g3 H3 S2 S3
      go_wp2
      go_ret
      refine ⟨_, _, _, _, _, _, rfl, ⟨j3, by omega, ?_, S4.out⟩, fun R r e => ?_, fun r e ht => ?_⟩
      · rw [HO2.out, ← hd3]; cases Ow.str 10 [] [92, 110] 110 (s.drop j) <;> rfl
      · rw [HO2.out] at e
        cases hq : Ow.str 10 [] [92, 110] 110 (s.drop j) with
        | fell r => rw [hq] at e; cases e
        | ok v r =>
          rw [hq] at e
          obtain ⟨ht, hx⟩ := hx1 v r hq
          obtain rfl := str_inj hx
          injection e with e1 e2
          exact ⟨ht, e1, by rw [← e1]⟩
      · rw [HO2.out] at e
        cases hq : Ow.str 10 [] [92, 110] 110 (s.drop j) with
        | fell r2 =>
          rw [hq] at e
          injection e with e1
          subst e1
          exact hx2 _ hq ht
        | ok v r => rw [hq] at e; cases e

end Go.Proofs.YthniemoganoapaaDoor
