/- The walk of Scan's sample (layer 17, the reference). -/
import Derived.Test.YthniemoganoapaaDoorRefOwI
import Derived.Test.YthniemoganoapaaDoorOpI
import Derived.Test.YthniemoganoapaaDoorRefOwD
set_option maxRecDepth 100000
set_option linter.unusedVariables false
set_option linter.unusedSimpArgs false
namespace Go.Proofs.YthniemoganoapaaDoor
open Go.RowKit
attribute [local go_sem ↓] Go.wp_at_zero Go.wp_at_succ

/-- within a row's line, the reference's way: the Scan behind a piece, the row so far in the block behind the next new one, the result in the next new one -/
structure RmAt {α : Type} (w0 W : World) (b : Nat) (s : List UInt8) (o : Ow.Out α) (x : Ow.Rw) (v : Value) (L : List Ow.Tg) : Prop where
  C : ScO W b s o
  R : RwAt W (w0.heap.size + 1) (x, v)
  Z : RwAt W w0.heap.size (⟨0, [], 0, [], [], 0, false, [], 0⟩, .slice none 0 0)
  G : w0.grownBy W (some b)
  T : TgOwn W (w0.heap.size + 2) v L
  l1 : b < w0.heap.size
theorem RmAt.call {α β : Type} {w0 W W' : World} {b : Nat} {s : List UInt8} {o : Ow.Out α} {o' : Ow.Out β} {x : Ow.Rw} {v : Value} {L : List Ow.Tg} (h : RmAt w0 W b s o x v L) (g : W.grownBy W' (some b)) (c : ScO W' b s o') : RmAt w0 W' b s o' x v L :=
  have l := h.l1
  ⟨c, h.R.grown g (by intro e; injection e; omega), h.Z.grown g (by intro e; injection e; omega), sc_trans h.G g, ko_grown h.T g (by omega), h.l1⟩
theorem RmAt.sto {α : Type} {w0 W : World} {b i : Nat} {s : List UInt8} {o : Ow.Out α} {x y : Ow.Rw} {v u : Value} {L : List Ow.Tg} (h : RmAt w0 W b s o x v L) (r : RwAt (W.setCell ⟨w0.heap.size + 1, i, none⟩ u) (w0.heap.size + 1) (y, v)) : RmAt w0 (W.setCell ⟨w0.heap.size + 1, i, none⟩ u) b s o y v L :=
  have l := h.l1
  have g : W.grownBy (W.setCell ⟨w0.heap.size + 1, i, none⟩ u) (some (w0.heap.size + 1)) := sc_set (sc_below (Below.refl _ _) _)
  ⟨h.C.grown g (by intro e; injection e; omega), r, h.Z.grown g (by intro e; injection e; omega), gr_set h.G (Nat.le_succ _), ko_grown h.T g (by omega), h.l1⟩
theorem RmAt.tags {α β : Type} {w0 W W' : World} {b : Nat} {s : List UInt8} {o : Ow.Out α} {o' : Ow.Out β} {x : Ow.Rw} {v u : Value} {L M : List Ow.Tg} (h : RmAt w0 W b s o x v L) (g : Gr2 W W' b (w0.heap.size + 1)) (c : ScO W' b s o') (r : RwAt W' (w0.heap.size + 1) (x, u)) (t : TgOwn W' W.heap.size u M) : RmAt w0 W' b s o' x u M :=
  have l := h.l1
  have l2 := h.R.lt
  ⟨c, r, h.Z.gr2 g (by omega) (by omega), g.old h.G (Nat.le_succ _), KOwn.mono t (by omega), h.l1⟩
/-- the row laid into the result -/
theorem RmAt.fin {α : Type} {w0 W : World} {b : Nat} {s : List UInt8} {o : Ow.Out α} {x : Ow.Rw} {v : Value} {L : List Ow.Tg} (h : RmAt w0 W b s o x v L) :
    ScO ((((((((((W.setCell ⟨w0.heap.size, 0, none⟩ (.int .i64 x.k)).setCell ⟨w0.heap.size, 1, none⟩ (.string (str x.n))).setCell ⟨w0.heap.size, 2, none⟩ (.int .i64 (x.off : Nat))).setCell ⟨w0.heap.size, 3, none⟩ (v)).setCell ⟨w0.heap.size, 4, none⟩ (.slice none 0 0)).setCell ⟨w0.heap.size, 5, none⟩ (.string (str x.text))).setCell ⟨w0.heap.size, 6, none⟩ (.int .i64 (x.at_ : Nat))).setCell ⟨w0.heap.size, 7, none⟩ (.bool x.td)).setCell ⟨w0.heap.size, 8, none⟩ (.string (str x.tm))).setCell ⟨w0.heap.size, 9, none⟩ (.int .i64 (x.wh : Nat))) b s o ∧ RwAt ((((((((((W.setCell ⟨w0.heap.size, 0, none⟩ (.int .i64 x.k)).setCell ⟨w0.heap.size, 1, none⟩ (.string (str x.n))).setCell ⟨w0.heap.size, 2, none⟩ (.int .i64 (x.off : Nat))).setCell ⟨w0.heap.size, 3, none⟩ (v)).setCell ⟨w0.heap.size, 4, none⟩ (.slice none 0 0)).setCell ⟨w0.heap.size, 5, none⟩ (.string (str x.text))).setCell ⟨w0.heap.size, 6, none⟩ (.int .i64 (x.at_ : Nat))).setCell ⟨w0.heap.size, 7, none⟩ (.bool x.td)).setCell ⟨w0.heap.size, 8, none⟩ (.string (str x.tm))).setCell ⟨w0.heap.size, 9, none⟩ (.int .i64 (x.wh : Nat))) w0.heap.size (x, v) ∧ w0.grownBy ((((((((((W.setCell ⟨w0.heap.size, 0, none⟩ (.int .i64 x.k)).setCell ⟨w0.heap.size, 1, none⟩ (.string (str x.n))).setCell ⟨w0.heap.size, 2, none⟩ (.int .i64 (x.off : Nat))).setCell ⟨w0.heap.size, 3, none⟩ (v)).setCell ⟨w0.heap.size, 4, none⟩ (.slice none 0 0)).setCell ⟨w0.heap.size, 5, none⟩ (.string (str x.text))).setCell ⟨w0.heap.size, 6, none⟩ (.int .i64 (x.at_ : Nat))).setCell ⟨w0.heap.size, 7, none⟩ (.bool x.td)).setCell ⟨w0.heap.size, 8, none⟩ (.string (str x.tm))).setCell ⟨w0.heap.size, 9, none⟩ (.int .i64 (x.wh : Nat))) (some b) ∧ TgOwn ((((((((((W.setCell ⟨w0.heap.size, 0, none⟩ (.int .i64 x.k)).setCell ⟨w0.heap.size, 1, none⟩ (.string (str x.n))).setCell ⟨w0.heap.size, 2, none⟩ (.int .i64 (x.off : Nat))).setCell ⟨w0.heap.size, 3, none⟩ (v)).setCell ⟨w0.heap.size, 4, none⟩ (.slice none 0 0)).setCell ⟨w0.heap.size, 5, none⟩ (.string (str x.text))).setCell ⟨w0.heap.size, 6, none⟩ (.int .i64 (x.at_ : Nat))).setCell ⟨w0.heap.size, 7, none⟩ (.bool x.td)).setCell ⟨w0.heap.size, 8, none⟩ (.string (str x.tm))).setCell ⟨w0.heap.size, 9, none⟩ (.int .i64 (x.wh : Nat))) w0.heap.size v L :=
  have l := h.l1
  ⟨h.C.grown grown_ten (by intro e; injection e; omega), h.Z.all x v, gr_ten h.G (Nat.le_refl _), KOwn.mono (ko_grown h.T grown_ten (by omega)) (by omega)⟩

set_option maxHeartbeats 64000000 in
theorem scsample_calls (b : Nat) (s : List UInt8) (w : World) (r00 : List UInt8) (h : ScO w b s (Ow.Out.ok () r00)) (hs : s.length ≤ 1900) :
    Calls Tryd.prog 24 #[.pointer (some ⟨b, 0, none⟩)] w fun e w' =>
      ∃ x A n cap L, e = .returned (rwv (x, .slice A n cap)) ∧ ScO w' b s (Ow.sample s.length r00) ∧ w.grownBy w' (some b) ∧ TgOwn w' w.heap.size (.slice A n cap) L ∧ ∀ R r, Ow.sample s.length r00 = .ok R r → x = R ∧ L = R.tags := by
  have hblt := h.num.lt
  obtain ⟨Q, hQ⟩ : ∃ Q, Q = Ow.sample s.length r00 := ⟨_, rfl⟩
  rw [← hQ]
  obtain ⟨of, hof⟩ : ∃ k, k = s.length - r00.length := ⟨_, rfl⟩
  have HQ0 := Lib.hid (show Q = (Ow.run 2 [] true r00).bind fun nm r1 =>
    (if r1.head? = some 123 then (if r1.tail.head? = some 125 then .ok [] r1.tail.tail else Ow.tags s.length r1.tail) else .ok [] r1).bind fun tg r2 =>
    (Ow.lit [32] r2).bind fun _ r3 => (Ow.num false r3).bind fun tx r4 =>
      if r4.head? = some 32 then (Ow.num false r4.tail).bind fun tm r5 => .ok ⟨0, nm, of, tg, tx, s.length - r3.length, true, tm, s.length - r4.tail.length⟩ r5
      else .ok ⟨0, nm, of, tg, tx, s.length - r3.length, false, [], 0⟩ r4 by rw [hQ, hof]; rfl)
  have HTags := Lib.hid (fun W r (x : Ow.Rw) (h : ScO W b s (Ow.Out.ok () r)) (hr : RwAt W (w.heap.size + 1) (x, .slice none 0 0)) => sctags_calls b (w.heap.size + 1) s W r x h hr (by omega) hs)
  obtain ⟨W1, hW1⟩ : ∃ X, X = (w.alloc (.cells #[.int .i64 0, .string ⟨#[]⟩, .int .i64 0, .slice none 0 0, .slice none 0 0, .string ⟨#[]⟩, .int .i64 0, .bool false, .string ⟨#[]⟩, .int .i64 0] 42)).alloc (.cells #[.int .i64 0, .string ⟨#[]⟩, .int .i64 (of : Nat), .slice none 0 0, .slice none 0 0, .string ⟨#[]⟩, .int .i64 0, .bool false, .string ⟨#[]⟩, .int .i64 0] 42) := ⟨_, rfl⟩
  have B1 : Below w.heap.size w W1 := by rw [hW1]; exact ((Below.refl _ _).alloc (Nat.le_refl _) _).alloc (by simp) _
  have R1 := (show RwAt W1 w.heap.size (⟨0, [], 0, [], [], 0, false, [], 0⟩, .slice none 0 0) by rw [hW1]; exact (RwAt.new w 0 0 _).belowB (B := w.heap.size + 1) ((Below.refl _ _).alloc (Nat.le_of_eq (al_size _ _).symm) _) (Nat.lt_succ_self _))
  have Q1 := (show RwAt W1 (w.heap.size + 1) (⟨0, [], of, [], [], 0, false, [], 0⟩, .slice none 0 0) by rw [hW1]; have := RwAt.new (w.alloc (.cells #[.int .i64 0, .string ⟨#[]⟩, .int .i64 0, .slice none 0 0, .slice none 0 0, .string ⟨#[]⟩, .int .i64 0, .bool false, .string ⟨#[]⟩, .int .i64 0] 42)) 0 of 42; rw [al_size] at this; exact this)
  have S0 := Lib.hid (show RmAt w W1 b s (Ow.Out.ok () r00) ⟨0, [], of, [], [], 0, false, [], 0⟩ (.slice none 0 0) [] from ⟨h.below B1, Q1, R1, sc_below B1 (some b), KOwn.nil _ _ _ _ _, hblt⟩)
  obtain ⟨c0, c1, c2, cf, cl⟩ := h.num
  rw [show s.length - (Ow.Out.ok () r00).rest.length = of from hof.symm] at c1
  have HW1 := Lib.hid hW1
  clear hof hQ hW1 B1 R1 Q1 h
  go_enter Tryd.func24, Tryd.ntmps24
  go_wp2_with fail
  rw [← HW1.out]
  clear HW1 c0 c1 c2 cf cl
  refine (run_calls _ 2 [] true b s W1 S0.out.C (by unfold maxLen; simp) (by unfold maxLen; omega)).mono ?_; rintro e w2 ⟨⟨x1, rfl, hx1⟩, g2, C2⟩
  obtain ⟨nm, rfl⟩ := text_is x1
  obtain ⟨o1, ho1⟩ : ∃ o, o = Ow.run 2 [] true r00 := ⟨_, rfl⟩
  rw [show ((Ow.Out.ok () r00).bind fun _ r => Ow.run 2 [] true r) = o1 from ho1.symm] at C2 hx1
  have hn1 : ∀ v r, o1 = .ok v r → nm = v := fun v r e => str_inj (hx1 v r e)
  have S2 := Lib.hid (S0.out.call g2 C2)
  obtain ⟨z0, z1, z2, z3, z4, z5, z6, z7, z8, z9, zf, zl⟩ := S2.out.R
  have S3 := Lib.hid (S2.out.sto (S2.out.R.set1 nm))
  clear g2 C2 S0 S2 hx1
  go_wp2_with fail
  clear z0 z1 z2 z3 z4 z5 z6 z7 z8 z9 zf zl
  refine (scnext_calls o1 b s _ S3.out.C (by unfold maxLen; omega)).mono ?_; rintro e w4 ⟨rfl, b4⟩
  have S4 := Lib.hid (S3.out.call (sc_below b4 _) (S3.out.C.below b4))
  clear b4 S3
  rw [← ho1] at HQ0
  cases o1 with
  | fell r1 =>
    have hr := Lib.hid (show Q = .fell r1 from HQ0.out)
    obtain ⟨c0, c1, c2, cf, cl⟩ := S4.out.C.num
    obtain ⟨ot, hot⟩ : ∃ o : Ow.Out (List Ow.Tg), o = .fell r1 := ⟨_, rfl⟩
    have S1 := Lib.hid (show RmAt w w4 b s ot ⟨0, nm, of, [], [], 0, false, [], 0⟩ (.slice none 0 0) [] by rw [hot]; have := S4.out; exact ⟨this.C.to rfl rfl, this.R, this.Z, this.G, this.T, this.l1⟩)
    have HQ := Lib.hid (show Q = ot.bind fun tg r2 => (Ow.lit [32] r2).bind fun _ r3 => (Ow.num false r3).bind fun tx r4 =>
      if r4.head? = some 32 then (Ow.num false r4.tail).bind fun tm r5 => .ok ⟨0, nm, of, tg, tx, s.length - r3.length, true, tm, s.length - r4.tail.length⟩ r5
      else .ok ⟨0, nm, of, tg, tx, s.length - r3.length, false, [], 0⟩ r4 by rw [hot]; exact hr.out)
    have hot : ∀ tg r, ot = .ok tg r → ([] : List Ow.Tg) = tg := fun tg r e => (by rw [hot] at e; cases e)
    obtain ⟨A, hA⟩ : ∃ A : Option Addr, A = none := ⟨_, rfl⟩
    obtain ⟨n, hn⟩ : ∃ A : Nat, A = 0 := ⟨_, rfl⟩
    obtain ⟨cap, hcap⟩ : ∃ A : Nat, A = 0 := ⟨_, rfl⟩
    obtain ⟨L, hL⟩ : ∃ A : List Ow.Tg, A = [] := ⟨_, rfl⟩
    have S1 := Lib.hid (show RmAt w w4 b s ot ⟨0, nm, of, [], [], 0, false, [], 0⟩ (.slice A n cap) L by rw [hA, hn, hcap, hL]; exact S1.out)
    rw [← hL] at hot
    clear hA hn hcap hL S4 HQ0 hr ho1
    generalize Ow.hd (Ow.Out.fell r1 : Ow.Out (List UInt8)).rest = HD
    obtain ⟨hb, hhb⟩ : ∃ hb, (HD == (123 : Int)) = hb := ⟨_, rfl⟩
    cases hb <;> skip
    · go_upto_region 8 with fail
      clear c0 c1 c2 cf cl
      clear HTags
      go_wp2_with fail
      refine (scl_calls _ [32] b s _ S1.out.C (by decide) (by unfold maxLen; omega)).mono ?_; rintro e w5 ⟨rfl, g5, C5⟩
      obtain ⟨o2, ho2⟩ : ∃ o, o = ot.bind fun _ r => Ow.lit [32] r := ⟨_, rfl⟩
      rw [← ho2] at C5
      have S5 := Lib.hid (S1.out.call g5 C5)
      obtain ⟨at_, hat⟩ : ∃ k, k = s.length - o2.rest.length := ⟨_, rfl⟩
      obtain ⟨c0, c1, c2, cf, cl⟩ := S5.out.C.num
      rw [← hat] at c1
      obtain ⟨z0, z1, z2, z3, z4, z5, z6, z7, z8, z9, zf, zl⟩ := S5.out.R
      have HAT := Lib.hid hat
      have S6 := Lib.hid (S5.out.sto (S5.out.R.set6 at_))
      clear hat g5 C5 S1 S5
      go_wp2_with fail
      clear z0 z1 z2 z3 z4 z5 z6 z7 z8 z9 zf zl c0 c1 c2 cf cl
      refine (number_calls o2 false b s _ S6.out.C (by unfold maxLen; omega)).mono ?_; rintro e w7 ⟨⟨x7, rfl, hx7⟩, g7, C7⟩
      obtain ⟨tx, rfl⟩ := text_is x7
      obtain ⟨o3, ho3⟩ : ∃ o, o = o2.bind fun _ r => Ow.num false r := ⟨_, rfl⟩
      rw [← ho3] at C7 hx7
      have hn7 : ∀ v r, o3 = .ok v r → tx = v := fun v r e => str_inj (hx7 v r e)
      have S7 := Lib.hid (S6.out.call g7 C7)
      obtain ⟨z0, z1, z2, z3, z4, z5, z6, z7, z8, z9, zf, zl⟩ := S7.out.R
      have S8 := Lib.hid (S7.out.sto (S7.out.R.set5 tx))
      clear g7 C7 S6 S7 hx7
      go_wp2_with fail
      clear z0 z1 z2 z3 z4 z5 z6 z7 z8 z9 zf zl
      refine (scnext_calls o3 b s _ S8.out.C (by unfold maxLen; omega)).mono ?_; rintro e w9 ⟨rfl, b9⟩
      have S9 := Lib.hid (S8.out.call (sc_below b9 _) (S8.out.C.below b9))
      clear b9 S8
      cases hP3 : o3 with
      | fell r3 =>
        rw [hP3] at S9
        have hr := Lib.hid (show Q = .fell r3 by
          have h3 := ho3; rw [hP3] at h3
          rw [HQ.out]
          cases ho : ot with
          | fell r =>
            rw [ho] at ho2; rw [ho2] at h3
            have e : r3 = r := by injection h3
            rw [e]; rfl
          | ok tg r =>
            rw [ho] at ho2
            have ho2 : o2 = Ow.lit [32] r := ho2
            show (Ow.lit [32] r).bind _ = _
            rw [← ho2]
            cases h2 : o2 with
            | fell r =>
              rw [h2] at h3
              have e : r3 = r := by injection h3
              rw [e]; rfl
            | ok u r =>
              rw [h2] at h3
              have h3 : Ow.Out.fell r3 = Ow.num false r := h3
              show (Ow.num false r).bind _ = _; rw [← h3]; rfl)
        obtain ⟨c0, c1, c2, cf, cl⟩ := S9.out.C.num
        obtain ⟨xr, hxr⟩ : ∃ xr : Ow.Rw, xr = ⟨0, nm, of, [], tx, at_, false, [], 0⟩ := ⟨_, rfl⟩
        have SX := Lib.hid (show RmAt w w9 b s (Ow.Out.fell r3 : Ow.Out (List UInt8)) xr (.slice A n cap) L by rw [hxr]; have := S9.out; exact ⟨this.C, by obtain ⟨z0, z1, z2, z3, z4, z5, z6, z7, z8, z9, zf, zl⟩ := this.R; exact ⟨z0, z1, z2, z3, z4, z5, z6, z7, z8, z9, zf, zl⟩, this.Z, this.G, this.T, this.l1⟩)
        clear S9 ho2 ho3 hP3 HQ hn7 hxr HAT
        generalize Ow.hd (Ow.Out.fell r3 : Ow.Out (List UInt8)).rest = HD
        obtain ⟨hb, hhb⟩ : ∃ hb, (HD == (32 : Int)) = hb := ⟨_, rfl⟩
        cases hb
        · have FZ := Lib.hid (show ScO ((((((((((w9.setCell ⟨w.heap.size, 0, none⟩ (.int .i64 xr.k)).setCell ⟨w.heap.size, 1, none⟩ (.string (str xr.n))).setCell ⟨w.heap.size, 2, none⟩ (.int .i64 (xr.off : Nat))).setCell ⟨w.heap.size, 3, none⟩ (.slice A n cap)).setCell ⟨w.heap.size, 4, none⟩ (.slice none 0 0)).setCell ⟨w.heap.size, 5, none⟩ (.string (str xr.text))).setCell ⟨w.heap.size, 6, none⟩ (.int .i64 (xr.at_ : Nat))).setCell ⟨w.heap.size, 7, none⟩ (.bool xr.td)).setCell ⟨w.heap.size, 8, none⟩ (.string (str xr.tm))).setCell ⟨w.heap.size, 9, none⟩ (.int .i64 (xr.wh : Nat))) b s _ ∧ RwAt ((((((((((w9.setCell ⟨w.heap.size, 0, none⟩ (.int .i64 xr.k)).setCell ⟨w.heap.size, 1, none⟩ (.string (str xr.n))).setCell ⟨w.heap.size, 2, none⟩ (.int .i64 (xr.off : Nat))).setCell ⟨w.heap.size, 3, none⟩ (.slice A n cap)).setCell ⟨w.heap.size, 4, none⟩ (.slice none 0 0)).setCell ⟨w.heap.size, 5, none⟩ (.string (str xr.text))).setCell ⟨w.heap.size, 6, none⟩ (.int .i64 (xr.at_ : Nat))).setCell ⟨w.heap.size, 7, none⟩ (.bool xr.td)).setCell ⟨w.heap.size, 8, none⟩ (.string (str xr.tm))).setCell ⟨w.heap.size, 9, none⟩ (.int .i64 (xr.wh : Nat))) w.heap.size (xr, .slice A n cap) ∧ w.grownBy ((((((((((w9.setCell ⟨w.heap.size, 0, none⟩ (.int .i64 xr.k)).setCell ⟨w.heap.size, 1, none⟩ (.string (str xr.n))).setCell ⟨w.heap.size, 2, none⟩ (.int .i64 (xr.off : Nat))).setCell ⟨w.heap.size, 3, none⟩ (.slice A n cap)).setCell ⟨w.heap.size, 4, none⟩ (.slice none 0 0)).setCell ⟨w.heap.size, 5, none⟩ (.string (str xr.text))).setCell ⟨w.heap.size, 6, none⟩ (.int .i64 (xr.at_ : Nat))).setCell ⟨w.heap.size, 7, none⟩ (.bool xr.td)).setCell ⟨w.heap.size, 8, none⟩ (.string (str xr.tm))).setCell ⟨w.heap.size, 9, none⟩ (.int .i64 (xr.wh : Nat))) (some b) ∧ TgOwn ((((((((((w9.setCell ⟨w.heap.size, 0, none⟩ (.int .i64 xr.k)).setCell ⟨w.heap.size, 1, none⟩ (.string (str xr.n))).setCell ⟨w.heap.size, 2, none⟩ (.int .i64 (xr.off : Nat))).setCell ⟨w.heap.size, 3, none⟩ (.slice A n cap)).setCell ⟨w.heap.size, 4, none⟩ (.slice none 0 0)).setCell ⟨w.heap.size, 5, none⟩ (.string (str xr.text))).setCell ⟨w.heap.size, 6, none⟩ (.int .i64 (xr.at_ : Nat))).setCell ⟨w.heap.size, 7, none⟩ (.bool xr.td)).setCell ⟨w.heap.size, 8, none⟩ (.string (str xr.tm))).setCell ⟨w.heap.size, 9, none⟩ (.int .i64 (xr.wh : Nat))) w.heap.size (.slice A n cap) L from SX.out.fin)
          obtain ⟨z0, z1, z2, z3, z4, z5, z6, z7, z8, z9, zf, zl⟩ := SX.out.R
          obtain ⟨y0, y1, y2, y3, y4, y5, y6, y7, y8, y9, yf, yl⟩ := SX.out.Z
          dsimp only at z0 z1 z2 z3 z4 z5 z6 z7 z8 z9 y0 y1 y2 y3 y4 y5 y6 y7 y8 y9
          clear SX
          go_wp2
          clear z0 z1 z2 z3 z4 z5 z6 z7 z8 z9 zf zl y0 y1 y2 y3 y4 y5 y6 y7 y8 y9 yf yl
          generalize hWZ : ((((((((((w9.setCell ⟨w.heap.size, 0, none⟩ (.int .i64 xr.k)).setCell ⟨w.heap.size, 1, none⟩ (.string (str xr.n))).setCell ⟨w.heap.size, 2, none⟩ (.int .i64 (xr.off : Nat))).setCell ⟨w.heap.size, 3, none⟩ (.slice A n cap)).setCell ⟨w.heap.size, 4, none⟩ (.slice none 0 0)).setCell ⟨w.heap.size, 5, none⟩ (.string (str xr.text))).setCell ⟨w.heap.size, 6, none⟩ (.int .i64 (xr.at_ : Nat))).setCell ⟨w.heap.size, 7, none⟩ (.bool xr.td)).setCell ⟨w.heap.size, 8, none⟩ (.string (str xr.tm))).setCell ⟨w.heap.size, 9, none⟩ (.int .i64 (xr.wh : Nat))) = WZ at *
          clear hWZ
          obtain ⟨FC, FR, FG, FT⟩ := FZ.out
          obtain ⟨y0, y1, y2, y3, y4, y5, y6, y7, y8, y9, yf, yl⟩ := FR
          refine bodyPost_ret (v := rwv (xr, .slice A n cap)) (by simp [results, Tryd.results24, go_sem, y0, y1, y2, y3, y4, y5, y6, y7, y8, y9, rwv]) rfl ?_
          exact ⟨xr, A, n, cap, L, rfl, FC.to (by rw [hr.out]; rfl) (by rw [hr.out]; rfl), FG, FT, fun R r e => (by rw [hr.out] at e; cases e)⟩
        · have FZ := Lib.hid (show ScO ((((((((((w9.setCell ⟨w.heap.size, 0, none⟩ (.int .i64 xr.k)).setCell ⟨w.heap.size, 1, none⟩ (.string (str xr.n))).setCell ⟨w.heap.size, 2, none⟩ (.int .i64 (xr.off : Nat))).setCell ⟨w.heap.size, 3, none⟩ (.slice A n cap)).setCell ⟨w.heap.size, 4, none⟩ (.slice none 0 0)).setCell ⟨w.heap.size, 5, none⟩ (.string (str xr.text))).setCell ⟨w.heap.size, 6, none⟩ (.int .i64 (xr.at_ : Nat))).setCell ⟨w.heap.size, 7, none⟩ (.bool xr.td)).setCell ⟨w.heap.size, 8, none⟩ (.string (str xr.tm))).setCell ⟨w.heap.size, 9, none⟩ (.int .i64 (xr.wh : Nat))) b s _ ∧ RwAt ((((((((((w9.setCell ⟨w.heap.size, 0, none⟩ (.int .i64 xr.k)).setCell ⟨w.heap.size, 1, none⟩ (.string (str xr.n))).setCell ⟨w.heap.size, 2, none⟩ (.int .i64 (xr.off : Nat))).setCell ⟨w.heap.size, 3, none⟩ (.slice A n cap)).setCell ⟨w.heap.size, 4, none⟩ (.slice none 0 0)).setCell ⟨w.heap.size, 5, none⟩ (.string (str xr.text))).setCell ⟨w.heap.size, 6, none⟩ (.int .i64 (xr.at_ : Nat))).setCell ⟨w.heap.size, 7, none⟩ (.bool xr.td)).setCell ⟨w.heap.size, 8, none⟩ (.string (str xr.tm))).setCell ⟨w.heap.size, 9, none⟩ (.int .i64 (xr.wh : Nat))) w.heap.size (xr, .slice A n cap) ∧ w.grownBy ((((((((((w9.setCell ⟨w.heap.size, 0, none⟩ (.int .i64 xr.k)).setCell ⟨w.heap.size, 1, none⟩ (.string (str xr.n))).setCell ⟨w.heap.size, 2, none⟩ (.int .i64 (xr.off : Nat))).setCell ⟨w.heap.size, 3, none⟩ (.slice A n cap)).setCell ⟨w.heap.size, 4, none⟩ (.slice none 0 0)).setCell ⟨w.heap.size, 5, none⟩ (.string (str xr.text))).setCell ⟨w.heap.size, 6, none⟩ (.int .i64 (xr.at_ : Nat))).setCell ⟨w.heap.size, 7, none⟩ (.bool xr.td)).setCell ⟨w.heap.size, 8, none⟩ (.string (str xr.tm))).setCell ⟨w.heap.size, 9, none⟩ (.int .i64 (xr.wh : Nat))) (some b) ∧ TgOwn ((((((((((w9.setCell ⟨w.heap.size, 0, none⟩ (.int .i64 xr.k)).setCell ⟨w.heap.size, 1, none⟩ (.string (str xr.n))).setCell ⟨w.heap.size, 2, none⟩ (.int .i64 (xr.off : Nat))).setCell ⟨w.heap.size, 3, none⟩ (.slice A n cap)).setCell ⟨w.heap.size, 4, none⟩ (.slice none 0 0)).setCell ⟨w.heap.size, 5, none⟩ (.string (str xr.text))).setCell ⟨w.heap.size, 6, none⟩ (.int .i64 (xr.at_ : Nat))).setCell ⟨w.heap.size, 7, none⟩ (.bool xr.td)).setCell ⟨w.heap.size, 8, none⟩ (.string (str xr.tm))).setCell ⟨w.heap.size, 9, none⟩ (.int .i64 (xr.wh : Nat))) w.heap.size (.slice A n cap) L from SX.out.fin)
          obtain ⟨z0, z1, z2, z3, z4, z5, z6, z7, z8, z9, zf, zl⟩ := SX.out.R
          obtain ⟨y0, y1, y2, y3, y4, y5, y6, y7, y8, y9, yf, yl⟩ := SX.out.Z
          dsimp only at z0 z1 z2 z3 z4 z5 z6 z7 z8 z9 y0 y1 y2 y3 y4 y5 y6 y7 y8 y9
          clear SX
          go_wp2
          clear z0 z1 z2 z3 z4 z5 z6 z7 z8 z9 zf zl y0 y1 y2 y3 y4 y5 y6 y7 y8 y9 yf yl
          generalize hWZ : ((((((((((w9.setCell ⟨w.heap.size, 0, none⟩ (.int .i64 xr.k)).setCell ⟨w.heap.size, 1, none⟩ (.string (str xr.n))).setCell ⟨w.heap.size, 2, none⟩ (.int .i64 (xr.off : Nat))).setCell ⟨w.heap.size, 3, none⟩ (.slice A n cap)).setCell ⟨w.heap.size, 4, none⟩ (.slice none 0 0)).setCell ⟨w.heap.size, 5, none⟩ (.string (str xr.text))).setCell ⟨w.heap.size, 6, none⟩ (.int .i64 (xr.at_ : Nat))).setCell ⟨w.heap.size, 7, none⟩ (.bool xr.td)).setCell ⟨w.heap.size, 8, none⟩ (.string (str xr.tm))).setCell ⟨w.heap.size, 9, none⟩ (.int .i64 (xr.wh : Nat))) = WZ at *
          clear hWZ
          obtain ⟨FC, FR, FG, FT⟩ := FZ.out
          obtain ⟨y0, y1, y2, y3, y4, y5, y6, y7, y8, y9, yf, yl⟩ := FR
          refine bodyPost_ret (v := rwv (xr, .slice A n cap)) (by simp [results, Tryd.results24, go_sem, y0, y1, y2, y3, y4, y5, y6, y7, y8, y9, rwv]) rfl ?_
          exact ⟨xr, A, n, cap, L, rfl, FC.to (by rw [hr.out]; rfl) (by rw [hr.out]; rfl), FG, FT, fun R r e => (by rw [hr.out] at e; cases e)⟩
      | ok tx2 r4 =>
        rw [hP3] at S9
        obtain rfl := hn7 _ _ hP3
        obtain ⟨tg, r2, u, r3, hot1, ho21⟩ : ∃ tg r2 u r3, ot = .ok tg r2 ∧ o2 = .ok u r3 := by
          cases ho : ot with
          | fell r => rw [ho] at ho2; rw [ho2] at ho3; rw [ho3] at hP3; cases hP3
          | ok tg r2 =>
            cases h2 : o2 with
            | fell r => rw [h2] at ho3; rw [ho3] at hP3; cases hP3
            | ok u r3 => exact ⟨tg, r2, u, r3, rfl, rfl⟩
        have hl32 : Ow.lit [32] r2 = .ok u r3 := by rw [← ho21, ho2, hot1]; rfl
        have hnum : Ow.num false r3 = .ok tx r4 := by rw [← hP3, ho3, ho21]; rfl
        obtain rfl := hot _ _ hot1
        have hat : at_ = s.length - r3.length := by rw [HAT.out, ho21]; rfl
        have HQ2 := Lib.hid (show Q = if r4.head? = some 32 then (Ow.num false r4.tail).bind fun tm r5 => .ok ⟨0, nm, of, L, tx, at_, true, tm, s.length - r4.tail.length⟩ r5 else .ok ⟨0, nm, of, L, tx, at_, false, [], 0⟩ r4 by
          rw [HQ.out, hot1]; show (Ow.lit [32] r2).bind _ = _; rw [hl32]; show (Ow.num false r3).bind _ = _; rw [hnum, hat]; rfl)
        have hrs : r4 <:+ s := S9.out.C.suf
        obtain ⟨c0, c1, c2, cf, cl⟩ := S9.out.C.num
        have hdm : (Ow.hd r4 == (32 : Int)) = decide (r4.head? = some 32) := Ow.hd_is (l := r4) (c := 32) (by decide)
        clear ho2 ho3 hP3 HQ hn7 HAT hot1 ho21 hl32 hnum hat
        rw [show (Ow.Out.ok tx r4).rest = r4 from rfl]
        rw [show s.length - (Ow.Out.ok tx r4).rest.length = s.length - r4.length from rfl] at c1
        by_cases q : r4.head? = some 32
        rotate_left
        · rw [decide_eq_false q] at hdm
          rw [if_neg q] at HQ2
          generalize Ow.hd r4 = HD at *
          obtain ⟨xr, hxr⟩ : ∃ xr : Ow.Rw, xr = ⟨0, nm, of, L, tx, at_, false, [], 0⟩ := ⟨_, rfl⟩
          have SX := Lib.hid (show RmAt w w9 b s (Ow.Out.ok tx r4) xr (.slice A n cap) L by rw [hxr]; have := S9.out; exact ⟨this.C, by obtain ⟨z0, z1, z2, z3, z4, z5, z6, z7, z8, z9, zf, zl⟩ := this.R; exact ⟨z0, z1, z2, z3, z4, z5, z6, z7, z8, z9, zf, zl⟩, this.Z, this.G, this.T, this.l1⟩)
          have hr := Lib.hid (show Q = .ok xr r4 ∧ L = xr.tags by rw [HQ2.out, hxr]; exact ⟨rfl, rfl⟩)
          clear S9 HQ2 hxr q
          have FZ := Lib.hid (show ScO ((((((((((w9.setCell ⟨w.heap.size, 0, none⟩ (.int .i64 xr.k)).setCell ⟨w.heap.size, 1, none⟩ (.string (str xr.n))).setCell ⟨w.heap.size, 2, none⟩ (.int .i64 (xr.off : Nat))).setCell ⟨w.heap.size, 3, none⟩ (.slice A n cap)).setCell ⟨w.heap.size, 4, none⟩ (.slice none 0 0)).setCell ⟨w.heap.size, 5, none⟩ (.string (str xr.text))).setCell ⟨w.heap.size, 6, none⟩ (.int .i64 (xr.at_ : Nat))).setCell ⟨w.heap.size, 7, none⟩ (.bool xr.td)).setCell ⟨w.heap.size, 8, none⟩ (.string (str xr.tm))).setCell ⟨w.heap.size, 9, none⟩ (.int .i64 (xr.wh : Nat))) b s _ ∧ RwAt ((((((((((w9.setCell ⟨w.heap.size, 0, none⟩ (.int .i64 xr.k)).setCell ⟨w.heap.size, 1, none⟩ (.string (str xr.n))).setCell ⟨w.heap.size, 2, none⟩ (.int .i64 (xr.off : Nat))).setCell ⟨w.heap.size, 3, none⟩ (.slice A n cap)).setCell ⟨w.heap.size, 4, none⟩ (.slice none 0 0)).setCell ⟨w.heap.size, 5, none⟩ (.string (str xr.text))).setCell ⟨w.heap.size, 6, none⟩ (.int .i64 (xr.at_ : Nat))).setCell ⟨w.heap.size, 7, none⟩ (.bool xr.td)).setCell ⟨w.heap.size, 8, none⟩ (.string (str xr.tm))).setCell ⟨w.heap.size, 9, none⟩ (.int .i64 (xr.wh : Nat))) w.heap.size (xr, .slice A n cap) ∧ w.grownBy ((((((((((w9.setCell ⟨w.heap.size, 0, none⟩ (.int .i64 xr.k)).setCell ⟨w.heap.size, 1, none⟩ (.string (str xr.n))).setCell ⟨w.heap.size, 2, none⟩ (.int .i64 (xr.off : Nat))).setCell ⟨w.heap.size, 3, none⟩ (.slice A n cap)).setCell ⟨w.heap.size, 4, none⟩ (.slice none 0 0)).setCell ⟨w.heap.size, 5, none⟩ (.string (str xr.text))).setCell ⟨w.heap.size, 6, none⟩ (.int .i64 (xr.at_ : Nat))).setCell ⟨w.heap.size, 7, none⟩ (.bool xr.td)).setCell ⟨w.heap.size, 8, none⟩ (.string (str xr.tm))).setCell ⟨w.heap.size, 9, none⟩ (.int .i64 (xr.wh : Nat))) (some b) ∧ TgOwn ((((((((((w9.setCell ⟨w.heap.size, 0, none⟩ (.int .i64 xr.k)).setCell ⟨w.heap.size, 1, none⟩ (.string (str xr.n))).setCell ⟨w.heap.size, 2, none⟩ (.int .i64 (xr.off : Nat))).setCell ⟨w.heap.size, 3, none⟩ (.slice A n cap)).setCell ⟨w.heap.size, 4, none⟩ (.slice none 0 0)).setCell ⟨w.heap.size, 5, none⟩ (.string (str xr.text))).setCell ⟨w.heap.size, 6, none⟩ (.int .i64 (xr.at_ : Nat))).setCell ⟨w.heap.size, 7, none⟩ (.bool xr.td)).setCell ⟨w.heap.size, 8, none⟩ (.string (str xr.tm))).setCell ⟨w.heap.size, 9, none⟩ (.int .i64 (xr.wh : Nat))) w.heap.size (.slice A n cap) L from SX.out.fin)
          obtain ⟨z0, z1, z2, z3, z4, z5, z6, z7, z8, z9, zf, zl⟩ := SX.out.R
          obtain ⟨y0, y1, y2, y3, y4, y5, y6, y7, y8, y9, yf, yl⟩ := SX.out.Z
          dsimp only at z0 z1 z2 z3 z4 z5 z6 z7 z8 z9 y0 y1 y2 y3 y4 y5 y6 y7 y8 y9
          clear SX
          go_wp2
          clear z0 z1 z2 z3 z4 z5 z6 z7 z8 z9 zf zl y0 y1 y2 y3 y4 y5 y6 y7 y8 y9 yf yl
          generalize hWZ : ((((((((((w9.setCell ⟨w.heap.size, 0, none⟩ (.int .i64 xr.k)).setCell ⟨w.heap.size, 1, none⟩ (.string (str xr.n))).setCell ⟨w.heap.size, 2, none⟩ (.int .i64 (xr.off : Nat))).setCell ⟨w.heap.size, 3, none⟩ (.slice A n cap)).setCell ⟨w.heap.size, 4, none⟩ (.slice none 0 0)).setCell ⟨w.heap.size, 5, none⟩ (.string (str xr.text))).setCell ⟨w.heap.size, 6, none⟩ (.int .i64 (xr.at_ : Nat))).setCell ⟨w.heap.size, 7, none⟩ (.bool xr.td)).setCell ⟨w.heap.size, 8, none⟩ (.string (str xr.tm))).setCell ⟨w.heap.size, 9, none⟩ (.int .i64 (xr.wh : Nat))) = WZ at *
          clear hWZ
          obtain ⟨FC, FR, FG, FT⟩ := FZ.out
          obtain ⟨y0, y1, y2, y3, y4, y5, y6, y7, y8, y9, yf, yl⟩ := FR
          refine bodyPost_ret (v := rwv (xr, .slice A n cap)) (by simp [results, Tryd.results24, go_sem, y0, y1, y2, y3, y4, y5, y6, y7, y8, y9, rwv]) rfl ?_
          exact ⟨xr, A, n, cap, L, rfl, FC.to (by rw [hr.out.1]; rfl) (by rw [hr.out.1]; rfl), FG, FT, fun R r e => (by rw [hr.out.1] at e; injection e with e1 e2; exact ⟨e1, by rw [← e1]; exact hr.out.2⟩)⟩
        · rw [decide_eq_true q] at hdm
          rw [if_pos q] at HQ2
          have hrt := Ow.head_some q
          have hkl : s.length - r4.length + 1 = s.length - r4.tail.length := by
            have h1 := hrs.length_le
            have h2 := congrArg List.length hrt
            simp only [List.length_cons] at h2
            omega
          generalize Ow.hd r4 = HD at *
          obtain ⟨K1, hK1⟩ : ∃ k, k = s.length - r4.length := ⟨_, rfl⟩
          obtain ⟨K2, hK2⟩ : ∃ k, k = s.length - r4.tail.length := ⟨_, rfl⟩
          rw [← hK1] at c1 hkl
          rw [← hK2] at HQ2 hkl
          have hw : IntKind.i64.wrap ((K1 : Int) + 1) = (K2 : Int) := by
            rw [show (K1 : Int) + 1 = (K2 : Int) by omega]; exact IntWalk.i64_in _ (by omega)
          have CM : ScO (w9.setCell ⟨b, 1, none⟩ (.int .i64 (K2 : Nat))) b s (Ow.Out.ok () r4.tail) := ⟨(List.tail_suffix r4).trans hrs, by show ScA _ b s (s.length - r4.tail.length) false; rw [← hK2]; exact S9.out.C.num.move K2⟩
          have SA := Lib.hid (S9.out.call (sc_set (sc_below (Below.refl _ _) _)) CM)
          obtain ⟨z0, z1, z2, z3, z4, z5, z6, z7, z8, z9, zf, zl⟩ := SA.out.R
          have SB := Lib.hid (SA.out.sto (SA.out.R.set7 true))
          have SC := Lib.hid (SB.out.sto (SB.out.R.set9 K2))
          clear hK1 hK2 hkl CM S9 SA SB hrt q
          obtain ⟨z0, z1, z2, z3, z4, z5, z6, z7, z8, z9, zf, zl⟩ := SC.out.R
          go_wp2_with fail
          refine (number_calls (Ow.Out.ok () r4.tail) false b s _ SC.out.C (by unfold maxLen; omega)).mono ?_; rintro e wB ⟨⟨xB, rfl, hxB⟩, gB, CB⟩
          clear z0 z1 z2 z3 z4 z5 z6 z7 z8 z9 zf zl c0 c1 c2 cf cl
          obtain ⟨tm, rfl⟩ := text_is xB
          have CB : ScO wB b s (Ow.num false r4.tail) := CB
          have hxB : ∀ v r, Ow.num false r4.tail = .ok v r → tm = v := fun v r e => str_inj (hxB v r e)
          have SD := Lib.hid (SC.out.call gB CB)
          obtain ⟨z0, z1, z2, z3, z4, z5, z6, z7, z8, z9, zf, zl⟩ := SD.out.R
          have SE := Lib.hid (SD.out.sto (SD.out.R.set8 tm))
          obtain ⟨xr, hxr⟩ : ∃ xr : Ow.Rw, xr = ⟨0, nm, of, L, tx, at_, true, tm, K2⟩ := ⟨_, rfl⟩
          have SX := Lib.hid (show RmAt w (wB.setCell ⟨w.heap.size + 1, 8, none⟩ (.string (str tm))) b s (Ow.num false r4.tail) xr (.slice A n cap) L by rw [hxr]; have := SE.out; exact ⟨this.C, by obtain ⟨z0, z1, z2, z3, z4, z5, z6, z7, z8, z9, zf, zl⟩ := this.R; exact ⟨z0, z1, z2, z3, z4, z5, z6, z7, z8, z9, zf, zl⟩, this.Z, this.G, this.T, this.l1⟩)
          have hr := Lib.hid (show Q.rest = (Ow.num false r4.tail).rest ∧ Ow.fellB Q = Ow.fellB (Ow.num false r4.tail) ∧ ∀ R r, Q = .ok R r → xr = R ∧ L = R.tags by
            rw [HQ2.out, hxr]
            cases hq : Ow.num false r4.tail with
            | fell r => exact ⟨rfl, rfl, fun R r e => (by cases e)⟩
            | ok v r =>
              obtain rfl := hxB _ _ hq
              exact ⟨rfl, rfl, fun R r e => (by injection e with e1 e2; exact ⟨e1, by rw [← e1]⟩)⟩)
          clear SE SC SD HQ2 hxr gB CB hxB
          have FZ := Lib.hid (show ScO (((((((((((wB.setCell ⟨w.heap.size + 1, 8, none⟩ (.string (str tm))).setCell ⟨w.heap.size, 0, none⟩ (.int .i64 xr.k)).setCell ⟨w.heap.size, 1, none⟩ (.string (str xr.n))).setCell ⟨w.heap.size, 2, none⟩ (.int .i64 (xr.off : Nat))).setCell ⟨w.heap.size, 3, none⟩ (.slice A n cap)).setCell ⟨w.heap.size, 4, none⟩ (.slice none 0 0)).setCell ⟨w.heap.size, 5, none⟩ (.string (str xr.text))).setCell ⟨w.heap.size, 6, none⟩ (.int .i64 (xr.at_ : Nat))).setCell ⟨w.heap.size, 7, none⟩ (.bool xr.td)).setCell ⟨w.heap.size, 8, none⟩ (.string (str xr.tm))).setCell ⟨w.heap.size, 9, none⟩ (.int .i64 (xr.wh : Nat))) b s _ ∧ RwAt (((((((((((wB.setCell ⟨w.heap.size + 1, 8, none⟩ (.string (str tm))).setCell ⟨w.heap.size, 0, none⟩ (.int .i64 xr.k)).setCell ⟨w.heap.size, 1, none⟩ (.string (str xr.n))).setCell ⟨w.heap.size, 2, none⟩ (.int .i64 (xr.off : Nat))).setCell ⟨w.heap.size, 3, none⟩ (.slice A n cap)).setCell ⟨w.heap.size, 4, none⟩ (.slice none 0 0)).setCell ⟨w.heap.size, 5, none⟩ (.string (str xr.text))).setCell ⟨w.heap.size, 6, none⟩ (.int .i64 (xr.at_ : Nat))).setCell ⟨w.heap.size, 7, none⟩ (.bool xr.td)).setCell ⟨w.heap.size, 8, none⟩ (.string (str xr.tm))).setCell ⟨w.heap.size, 9, none⟩ (.int .i64 (xr.wh : Nat))) w.heap.size (xr, .slice A n cap) ∧ w.grownBy (((((((((((wB.setCell ⟨w.heap.size + 1, 8, none⟩ (.string (str tm))).setCell ⟨w.heap.size, 0, none⟩ (.int .i64 xr.k)).setCell ⟨w.heap.size, 1, none⟩ (.string (str xr.n))).setCell ⟨w.heap.size, 2, none⟩ (.int .i64 (xr.off : Nat))).setCell ⟨w.heap.size, 3, none⟩ (.slice A n cap)).setCell ⟨w.heap.size, 4, none⟩ (.slice none 0 0)).setCell ⟨w.heap.size, 5, none⟩ (.string (str xr.text))).setCell ⟨w.heap.size, 6, none⟩ (.int .i64 (xr.at_ : Nat))).setCell ⟨w.heap.size, 7, none⟩ (.bool xr.td)).setCell ⟨w.heap.size, 8, none⟩ (.string (str xr.tm))).setCell ⟨w.heap.size, 9, none⟩ (.int .i64 (xr.wh : Nat))) (some b) ∧ TgOwn (((((((((((wB.setCell ⟨w.heap.size + 1, 8, none⟩ (.string (str tm))).setCell ⟨w.heap.size, 0, none⟩ (.int .i64 xr.k)).setCell ⟨w.heap.size, 1, none⟩ (.string (str xr.n))).setCell ⟨w.heap.size, 2, none⟩ (.int .i64 (xr.off : Nat))).setCell ⟨w.heap.size, 3, none⟩ (.slice A n cap)).setCell ⟨w.heap.size, 4, none⟩ (.slice none 0 0)).setCell ⟨w.heap.size, 5, none⟩ (.string (str xr.text))).setCell ⟨w.heap.size, 6, none⟩ (.int .i64 (xr.at_ : Nat))).setCell ⟨w.heap.size, 7, none⟩ (.bool xr.td)).setCell ⟨w.heap.size, 8, none⟩ (.string (str xr.tm))).setCell ⟨w.heap.size, 9, none⟩ (.int .i64 (xr.wh : Nat))) w.heap.size (.slice A n cap) L from SX.out.fin)
          obtain ⟨z0, z1, z2, z3, z4, z5, z6, z7, z8, z9, zf, zl⟩ := SX.out.R
          obtain ⟨y0, y1, y2, y3, y4, y5, y6, y7, y8, y9, yf, yl⟩ := SX.out.Z
          dsimp only at z0 z1 z2 z3 z4 z5 z6 z7 z8 z9 y0 y1 y2 y3 y4 y5 y6 y7 y8 y9
          clear SX
          go_wp2
          clear z0 z1 z2 z3 z4 z5 z6 z7 z8 z9 zf zl y0 y1 y2 y3 y4 y5 y6 y7 y8 y9 yf yl
          generalize hWZ : (((((((((((wB.setCell ⟨w.heap.size + 1, 8, none⟩ (.string (str tm))).setCell ⟨w.heap.size, 0, none⟩ (.int .i64 xr.k)).setCell ⟨w.heap.size, 1, none⟩ (.string (str xr.n))).setCell ⟨w.heap.size, 2, none⟩ (.int .i64 (xr.off : Nat))).setCell ⟨w.heap.size, 3, none⟩ (.slice A n cap)).setCell ⟨w.heap.size, 4, none⟩ (.slice none 0 0)).setCell ⟨w.heap.size, 5, none⟩ (.string (str xr.text))).setCell ⟨w.heap.size, 6, none⟩ (.int .i64 (xr.at_ : Nat))).setCell ⟨w.heap.size, 7, none⟩ (.bool xr.td)).setCell ⟨w.heap.size, 8, none⟩ (.string (str xr.tm))).setCell ⟨w.heap.size, 9, none⟩ (.int .i64 (xr.wh : Nat))) = WZ at *
          clear hWZ
          obtain ⟨FC, FR, FG, FT⟩ := FZ.out
          obtain ⟨y0, y1, y2, y3, y4, y5, y6, y7, y8, y9, yf, yl⟩ := FR
          refine bodyPost_ret (v := rwv (xr, .slice A n cap)) (by simp [results, Tryd.results24, go_sem, y0, y1, y2, y3, y4, y5, y6, y7, y8, y9, rwv]) rfl ?_
          exact ⟨xr, A, n, cap, L, rfl, FC.to hr.out.1 hr.out.2.1, FG, FT, hr.out.2.2⟩
    · go_upto_region 8 with fail
      clear c0 c1 c2 cf cl
      clear HTags
      go_wp2_with fail
      refine (scl_calls _ [32] b s _ S1.out.C (by decide) (by unfold maxLen; omega)).mono ?_; rintro e w5 ⟨rfl, g5, C5⟩
      obtain ⟨o2, ho2⟩ : ∃ o, o = ot.bind fun _ r => Ow.lit [32] r := ⟨_, rfl⟩
      rw [← ho2] at C5
      have S5 := Lib.hid (S1.out.call g5 C5)
      obtain ⟨at_, hat⟩ : ∃ k, k = s.length - o2.rest.length := ⟨_, rfl⟩
      obtain ⟨c0, c1, c2, cf, cl⟩ := S5.out.C.num
      rw [← hat] at c1
      obtain ⟨z0, z1, z2, z3, z4, z5, z6, z7, z8, z9, zf, zl⟩ := S5.out.R
      have HAT := Lib.hid hat
      have S6 := Lib.hid (S5.out.sto (S5.out.R.set6 at_))
      clear hat g5 C5 S1 S5
      go_wp2_with fail
      clear z0 z1 z2 z3 z4 z5 z6 z7 z8 z9 zf zl c0 c1 c2 cf cl
      refine (number_calls o2 false b s _ S6.out.C (by unfold maxLen; omega)).mono ?_; rintro e w7 ⟨⟨x7, rfl, hx7⟩, g7, C7⟩
      obtain ⟨tx, rfl⟩ := text_is x7
      obtain ⟨o3, ho3⟩ : ∃ o, o = o2.bind fun _ r => Ow.num false r := ⟨_, rfl⟩
      rw [← ho3] at C7 hx7
      have hn7 : ∀ v r, o3 = .ok v r → tx = v := fun v r e => str_inj (hx7 v r e)
      have S7 := Lib.hid (S6.out.call g7 C7)
      obtain ⟨z0, z1, z2, z3, z4, z5, z6, z7, z8, z9, zf, zl⟩ := S7.out.R
      have S8 := Lib.hid (S7.out.sto (S7.out.R.set5 tx))
      clear g7 C7 S6 S7 hx7
      go_wp2_with fail
      clear z0 z1 z2 z3 z4 z5 z6 z7 z8 z9 zf zl
      refine (scnext_calls o3 b s _ S8.out.C (by unfold maxLen; omega)).mono ?_; rintro e w9 ⟨rfl, b9⟩
      have S9 := Lib.hid (S8.out.call (sc_below b9 _) (S8.out.C.below b9))
      clear b9 S8
      cases hP3 : o3 with
      | fell r3 =>
        rw [hP3] at S9
        have hr := Lib.hid (show Q = .fell r3 by
          have h3 := ho3; rw [hP3] at h3
          rw [HQ.out]
          cases ho : ot with
          | fell r =>
            rw [ho] at ho2; rw [ho2] at h3
            have e : r3 = r := by injection h3
            rw [e]; rfl
          | ok tg r =>
            rw [ho] at ho2
            have ho2 : o2 = Ow.lit [32] r := ho2
            show (Ow.lit [32] r).bind _ = _
            rw [← ho2]
            cases h2 : o2 with
            | fell r =>
              rw [h2] at h3
              have e : r3 = r := by injection h3
              rw [e]; rfl
            | ok u r =>
              rw [h2] at h3
              have h3 : Ow.Out.fell r3 = Ow.num false r := h3
              show (Ow.num false r).bind _ = _; rw [← h3]; rfl)
        obtain ⟨c0, c1, c2, cf, cl⟩ := S9.out.C.num
        obtain ⟨xr, hxr⟩ : ∃ xr : Ow.Rw, xr = ⟨0, nm, of, [], tx, at_, false, [], 0⟩ := ⟨_, rfl⟩
        have SX := Lib.hid (show RmAt w w9 b s (Ow.Out.fell r3 : Ow.Out (List UInt8)) xr (.slice A n cap) L by rw [hxr]; have := S9.out; exact ⟨this.C, by obtain ⟨z0, z1, z2, z3, z4, z5, z6, z7, z8, z9, zf, zl⟩ := this.R; exact ⟨z0, z1, z2, z3, z4, z5, z6, z7, z8, z9, zf, zl⟩, this.Z, this.G, this.T, this.l1⟩)
        clear S9 ho2 ho3 hP3 HQ hn7 hxr HAT
        generalize Ow.hd (Ow.Out.fell r3 : Ow.Out (List UInt8)).rest = HD
        obtain ⟨hb, hhb⟩ : ∃ hb, (HD == (32 : Int)) = hb := ⟨_, rfl⟩
        cases hb
        · have FZ := Lib.hid (show ScO ((((((((((w9.setCell ⟨w.heap.size, 0, none⟩ (.int .i64 xr.k)).setCell ⟨w.heap.size, 1, none⟩ (.string (str xr.n))).setCell ⟨w.heap.size, 2, none⟩ (.int .i64 (xr.off : Nat))).setCell ⟨w.heap.size, 3, none⟩ (.slice A n cap)).setCell ⟨w.heap.size, 4, none⟩ (.slice none 0 0)).setCell ⟨w.heap.size, 5, none⟩ (.string (str xr.text))).setCell ⟨w.heap.size, 6, none⟩ (.int .i64 (xr.at_ : Nat))).setCell ⟨w.heap.size, 7, none⟩ (.bool xr.td)).setCell ⟨w.heap.size, 8, none⟩ (.string (str xr.tm))).setCell ⟨w.heap.size, 9, none⟩ (.int .i64 (xr.wh : Nat))) b s _ ∧ RwAt ((((((((((w9.setCell ⟨w.heap.size, 0, none⟩ (.int .i64 xr.k)).setCell ⟨w.heap.size, 1, none⟩ (.string (str xr.n))).setCell ⟨w.heap.size, 2, none⟩ (.int .i64 (xr.off : Nat))).setCell ⟨w.heap.size, 3, none⟩ (.slice A n cap)).setCell ⟨w.heap.size, 4, none⟩ (.slice none 0 0)).setCell ⟨w.heap.size, 5, none⟩ (.string (str xr.text))).setCell ⟨w.heap.size, 6, none⟩ (.int .i64 (xr.at_ : Nat))).setCell ⟨w.heap.size, 7, none⟩ (.bool xr.td)).setCell ⟨w.heap.size, 8, none⟩ (.string (str xr.tm))).setCell ⟨w.heap.size, 9, none⟩ (.int .i64 (xr.wh : Nat))) w.heap.size (xr, .slice A n cap) ∧ w.grownBy ((((((((((w9.setCell ⟨w.heap.size, 0, none⟩ (.int .i64 xr.k)).setCell ⟨w.heap.size, 1, none⟩ (.string (str xr.n))).setCell ⟨w.heap.size, 2, none⟩ (.int .i64 (xr.off : Nat))).setCell ⟨w.heap.size, 3, none⟩ (.slice A n cap)).setCell ⟨w.heap.size, 4, none⟩ (.slice none 0 0)).setCell ⟨w.heap.size, 5, none⟩ (.string (str xr.text))).setCell ⟨w.heap.size, 6, none⟩ (.int .i64 (xr.at_ : Nat))).setCell ⟨w.heap.size, 7, none⟩ (.bool xr.td)).setCell ⟨w.heap.size, 8, none⟩ (.string (str xr.tm))).setCell ⟨w.heap.size, 9, none⟩ (.int .i64 (xr.wh : Nat))) (some b) ∧ TgOwn ((((((((((w9.setCell ⟨w.heap.size, 0, none⟩ (.int .i64 xr.k)).setCell ⟨w.heap.size, 1, none⟩ (.string (str xr.n))).setCell ⟨w.heap.size, 2, none⟩ (.int .i64 (xr.off : Nat))).setCell ⟨w.heap.size, 3, none⟩ (.slice A n cap)).setCell ⟨w.heap.size, 4, none⟩ (.slice none 0 0)).setCell ⟨w.heap.size, 5, none⟩ (.string (str xr.text))).setCell ⟨w.heap.size, 6, none⟩ (.int .i64 (xr.at_ : Nat))).setCell ⟨w.heap.size, 7, none⟩ (.bool xr.td)).setCell ⟨w.heap.size, 8, none⟩ (.string (str xr.tm))).setCell ⟨w.heap.size, 9, none⟩ (.int .i64 (xr.wh : Nat))) w.heap.size (.slice A n cap) L from SX.out.fin)
          obtain ⟨z0, z1, z2, z3, z4, z5, z6, z7, z8, z9, zf, zl⟩ := SX.out.R
          obtain ⟨y0, y1, y2, y3, y4, y5, y6, y7, y8, y9, yf, yl⟩ := SX.out.Z
          dsimp only at z0 z1 z2 z3 z4 z5 z6 z7 z8 z9 y0 y1 y2 y3 y4 y5 y6 y7 y8 y9
          clear SX
          go_wp2
          clear z0 z1 z2 z3 z4 z5 z6 z7 z8 z9 zf zl y0 y1 y2 y3 y4 y5 y6 y7 y8 y9 yf yl
          generalize hWZ : ((((((((((w9.setCell ⟨w.heap.size, 0, none⟩ (.int .i64 xr.k)).setCell ⟨w.heap.size, 1, none⟩ (.string (str xr.n))).setCell ⟨w.heap.size, 2, none⟩ (.int .i64 (xr.off : Nat))).setCell ⟨w.heap.size, 3, none⟩ (.slice A n cap)).setCell ⟨w.heap.size, 4, none⟩ (.slice none 0 0)).setCell ⟨w.heap.size, 5, none⟩ (.string (str xr.text))).setCell ⟨w.heap.size, 6, none⟩ (.int .i64 (xr.at_ : Nat))).setCell ⟨w.heap.size, 7, none⟩ (.bool xr.td)).setCell ⟨w.heap.size, 8, none⟩ (.string (str xr.tm))).setCell ⟨w.heap.size, 9, none⟩ (.int .i64 (xr.wh : Nat))) = WZ at *
          clear hWZ
          obtain ⟨FC, FR, FG, FT⟩ := FZ.out
          obtain ⟨y0, y1, y2, y3, y4, y5, y6, y7, y8, y9, yf, yl⟩ := FR
          refine bodyPost_ret (v := rwv (xr, .slice A n cap)) (by simp [results, Tryd.results24, go_sem, y0, y1, y2, y3, y4, y5, y6, y7, y8, y9, rwv]) rfl ?_
          exact ⟨xr, A, n, cap, L, rfl, FC.to (by rw [hr.out]; rfl) (by rw [hr.out]; rfl), FG, FT, fun R r e => (by rw [hr.out] at e; cases e)⟩
        · have FZ := Lib.hid (show ScO ((((((((((w9.setCell ⟨w.heap.size, 0, none⟩ (.int .i64 xr.k)).setCell ⟨w.heap.size, 1, none⟩ (.string (str xr.n))).setCell ⟨w.heap.size, 2, none⟩ (.int .i64 (xr.off : Nat))).setCell ⟨w.heap.size, 3, none⟩ (.slice A n cap)).setCell ⟨w.heap.size, 4, none⟩ (.slice none 0 0)).setCell ⟨w.heap.size, 5, none⟩ (.string (str xr.text))).setCell ⟨w.heap.size, 6, none⟩ (.int .i64 (xr.at_ : Nat))).setCell ⟨w.heap.size, 7, none⟩ (.bool xr.td)).setCell ⟨w.heap.size, 8, none⟩ (.string (str xr.tm))).setCell ⟨w.heap.size, 9, none⟩ (.int .i64 (xr.wh : Nat))) b s _ ∧ RwAt ((((((((((w9.setCell ⟨w.heap.size, 0, none⟩ (.int .i64 xr.k)).setCell ⟨w.heap.size, 1, none⟩ (.string (str xr.n))).setCell ⟨w.heap.size, 2, none⟩ (.int .i64 (xr.off : Nat))).setCell ⟨w.heap.size, 3, none⟩ (.slice A n cap)).setCell ⟨w.heap.size, 4, none⟩ (.slice none 0 0)).setCell ⟨w.heap.size, 5, none⟩ (.string (str xr.text))).setCell ⟨w.heap.size, 6, none⟩ (.int .i64 (xr.at_ : Nat))).setCell ⟨w.heap.size, 7, none⟩ (.bool xr.td)).setCell ⟨w.heap.size, 8, none⟩ (.string (str xr.tm))).setCell ⟨w.heap.size, 9, none⟩ (.int .i64 (xr.wh : Nat))) w.heap.size (xr, .slice A n cap) ∧ w.grownBy ((((((((((w9.setCell ⟨w.heap.size, 0, none⟩ (.int .i64 xr.k)).setCell ⟨w.heap.size, 1, none⟩ (.string (str xr.n))).setCell ⟨w.heap.size, 2, none⟩ (.int .i64 (xr.off : Nat))).setCell ⟨w.heap.size, 3, none⟩ (.slice A n cap)).setCell ⟨w.heap.size, 4, none⟩ (.slice none 0 0)).setCell ⟨w.heap.size, 5, none⟩ (.string (str xr.text))).setCell ⟨w.heap.size, 6, none⟩ (.int .i64 (xr.at_ : Nat))).setCell ⟨w.heap.size, 7, none⟩ (.bool xr.td)).setCell ⟨w.heap.size, 8, none⟩ (.string (str xr.tm))).setCell ⟨w.heap.size, 9, none⟩ (.int .i64 (xr.wh : Nat))) (some b) ∧ TgOwn ((((((((((w9.setCell ⟨w.heap.size, 0, none⟩ (.int .i64 xr.k)).setCell ⟨w.heap.size, 1, none⟩ (.string (str xr.n))).setCell ⟨w.heap.size, 2, none⟩ (.int .i64 (xr.off : Nat))).setCell ⟨w.heap.size, 3, none⟩ (.slice A n cap)).setCell ⟨w.heap.size, 4, none⟩ (.slice none 0 0)).setCell ⟨w.heap.size, 5, none⟩ (.string (str xr.text))).setCell ⟨w.heap.size, 6, none⟩ (.int .i64 (xr.at_ : Nat))).setCell ⟨w.heap.size, 7, none⟩ (.bool xr.td)).setCell ⟨w.heap.size, 8, none⟩ (.string (str xr.tm))).setCell ⟨w.heap.size, 9, none⟩ (.int .i64 (xr.wh : Nat))) w.heap.size (.slice A n cap) L from SX.out.fin)
          obtain ⟨z0, z1, z2, z3, z4, z5, z6, z7, z8, z9, zf, zl⟩ := SX.out.R
          obtain ⟨y0, y1, y2, y3, y4, y5, y6, y7, y8, y9, yf, yl⟩ := SX.out.Z
          dsimp only at z0 z1 z2 z3 z4 z5 z6 z7 z8 z9 y0 y1 y2 y3 y4 y5 y6 y7 y8 y9
          clear SX
          go_wp2
          clear z0 z1 z2 z3 z4 z5 z6 z7 z8 z9 zf zl y0 y1 y2 y3 y4 y5 y6 y7 y8 y9 yf yl
          generalize hWZ : ((((((((((w9.setCell ⟨w.heap.size, 0, none⟩ (.int .i64 xr.k)).setCell ⟨w.heap.size, 1, none⟩ (.string (str xr.n))).setCell ⟨w.heap.size, 2, none⟩ (.int .i64 (xr.off : Nat))).setCell ⟨w.heap.size, 3, none⟩ (.slice A n cap)).setCell ⟨w.heap.size, 4, none⟩ (.slice none 0 0)).setCell ⟨w.heap.size, 5, none⟩ (.string (str xr.text))).setCell ⟨w.heap.size, 6, none⟩ (.int .i64 (xr.at_ : Nat))).setCell ⟨w.heap.size, 7, none⟩ (.bool xr.td)).setCell ⟨w.heap.size, 8, none⟩ (.string (str xr.tm))).setCell ⟨w.heap.size, 9, none⟩ (.int .i64 (xr.wh : Nat))) = WZ at *
          clear hWZ
          obtain ⟨FC, FR, FG, FT⟩ := FZ.out
          obtain ⟨y0, y1, y2, y3, y4, y5, y6, y7, y8, y9, yf, yl⟩ := FR
          refine bodyPost_ret (v := rwv (xr, .slice A n cap)) (by simp [results, Tryd.results24, go_sem, y0, y1, y2, y3, y4, y5, y6, y7, y8, y9, rwv]) rfl ?_
          exact ⟨xr, A, n, cap, L, rfl, FC.to (by rw [hr.out]; rfl) (by rw [hr.out]; rfl), FG, FT, fun R r e => (by rw [hr.out] at e; cases e)⟩
      | ok tx2 r4 =>
        rw [hP3] at S9
        obtain rfl := hn7 _ _ hP3
        obtain ⟨tg, r2, u, r3, hot1, ho21⟩ : ∃ tg r2 u r3, ot = .ok tg r2 ∧ o2 = .ok u r3 := by
          cases ho : ot with
          | fell r => rw [ho] at ho2; rw [ho2] at ho3; rw [ho3] at hP3; cases hP3
          | ok tg r2 =>
            cases h2 : o2 with
            | fell r => rw [h2] at ho3; rw [ho3] at hP3; cases hP3
            | ok u r3 => exact ⟨tg, r2, u, r3, rfl, rfl⟩
        have hl32 : Ow.lit [32] r2 = .ok u r3 := by rw [← ho21, ho2, hot1]; rfl
        have hnum : Ow.num false r3 = .ok tx r4 := by rw [← hP3, ho3, ho21]; rfl
        obtain rfl := hot _ _ hot1
        have hat : at_ = s.length - r3.length := by rw [HAT.out, ho21]; rfl
        have HQ2 := Lib.hid (show Q = if r4.head? = some 32 then (Ow.num false r4.tail).bind fun tm r5 => .ok ⟨0, nm, of, L, tx, at_, true, tm, s.length - r4.tail.length⟩ r5 else .ok ⟨0, nm, of, L, tx, at_, false, [], 0⟩ r4 by
          rw [HQ.out, hot1]; show (Ow.lit [32] r2).bind _ = _; rw [hl32]; show (Ow.num false r3).bind _ = _; rw [hnum, hat]; rfl)
        have hrs : r4 <:+ s := S9.out.C.suf
        obtain ⟨c0, c1, c2, cf, cl⟩ := S9.out.C.num
        have hdm : (Ow.hd r4 == (32 : Int)) = decide (r4.head? = some 32) := Ow.hd_is (l := r4) (c := 32) (by decide)
        clear ho2 ho3 hP3 HQ hn7 HAT hot1 ho21 hl32 hnum hat
        rw [show (Ow.Out.ok tx r4).rest = r4 from rfl]
        rw [show s.length - (Ow.Out.ok tx r4).rest.length = s.length - r4.length from rfl] at c1
        by_cases q : r4.head? = some 32
        rotate_left
        · rw [decide_eq_false q] at hdm
          rw [if_neg q] at HQ2
          generalize Ow.hd r4 = HD at *
          obtain ⟨xr, hxr⟩ : ∃ xr : Ow.Rw, xr = ⟨0, nm, of, L, tx, at_, false, [], 0⟩ := ⟨_, rfl⟩
          have SX := Lib.hid (show RmAt w w9 b s (Ow.Out.ok tx r4) xr (.slice A n cap) L by rw [hxr]; have := S9.out; exact ⟨this.C, by obtain ⟨z0, z1, z2, z3, z4, z5, z6, z7, z8, z9, zf, zl⟩ := this.R; exact ⟨z0, z1, z2, z3, z4, z5, z6, z7, z8, z9, zf, zl⟩, this.Z, this.G, this.T, this.l1⟩)
          have hr := Lib.hid (show Q = .ok xr r4 ∧ L = xr.tags by rw [HQ2.out, hxr]; exact ⟨rfl, rfl⟩)
          clear S9 HQ2 hxr q
          have FZ := Lib.hid (show ScO ((((((((((w9.setCell ⟨w.heap.size, 0, none⟩ (.int .i64 xr.k)).setCell ⟨w.heap.size, 1, none⟩ (.string (str xr.n))).setCell ⟨w.heap.size, 2, none⟩ (.int .i64 (xr.off : Nat))).setCell ⟨w.heap.size, 3, none⟩ (.slice A n cap)).setCell ⟨w.heap.size, 4, none⟩ (.slice none 0 0)).setCell ⟨w.heap.size, 5, none⟩ (.string (str xr.text))).setCell ⟨w.heap.size, 6, none⟩ (.int .i64 (xr.at_ : Nat))).setCell ⟨w.heap.size, 7, none⟩ (.bool xr.td)).setCell ⟨w.heap.size, 8, none⟩ (.string (str xr.tm))).setCell ⟨w.heap.size, 9, none⟩ (.int .i64 (xr.wh : Nat))) b s _ ∧ RwAt ((((((((((w9.setCell ⟨w.heap.size, 0, none⟩ (.int .i64 xr.k)).setCell ⟨w.heap.size, 1, none⟩ (.string (str xr.n))).setCell ⟨w.heap.size, 2, none⟩ (.int .i64 (xr.off : Nat))).setCell ⟨w.heap.size, 3, none⟩ (.slice A n cap)).setCell ⟨w.heap.size, 4, none⟩ (.slice none 0 0)).setCell ⟨w.heap.size, 5, none⟩ (.string (str xr.text))).setCell ⟨w.heap.size, 6, none⟩ (.int .i64 (xr.at_ : Nat))).setCell ⟨w.heap.size, 7, none⟩ (.bool xr.td)).setCell ⟨w.heap.size, 8, none⟩ (.string (str xr.tm))).setCell ⟨w.heap.size, 9, none⟩ (.int .i64 (xr.wh : Nat))) w.heap.size (xr, .slice A n cap) ∧ w.grownBy ((((((((((w9.setCell ⟨w.heap.size, 0, none⟩ (.int .i64 xr.k)).setCell ⟨w.heap.size, 1, none⟩ (.string (str xr.n))).setCell ⟨w.heap.size, 2, none⟩ (.int .i64 (xr.off : Nat))).setCell ⟨w.heap.size, 3, none⟩ (.slice A n cap)).setCell ⟨w.heap.size, 4, none⟩ (.slice none 0 0)).setCell ⟨w.heap.size, 5, none⟩ (.string (str xr.text))).setCell ⟨w.heap.size, 6, none⟩ (.int .i64 (xr.at_ : Nat))).setCell ⟨w.heap.size, 7, none⟩ (.bool xr.td)).setCell ⟨w.heap.size, 8, none⟩ (.string (str xr.tm))).setCell ⟨w.heap.size, 9, none⟩ (.int .i64 (xr.wh : Nat))) (some b) ∧ TgOwn ((((((((((w9.setCell ⟨w.heap.size, 0, none⟩ (.int .i64 xr.k)).setCell ⟨w.heap.size, 1, none⟩ (.string (str xr.n))).setCell ⟨w.heap.size, 2, none⟩ (.int .i64 (xr.off : Nat))).setCell ⟨w.heap.size, 3, none⟩ (.slice A n cap)).setCell ⟨w.heap.size, 4, none⟩ (.slice none 0 0)).setCell ⟨w.heap.size, 5, none⟩ (.string (str xr.text))).setCell ⟨w.heap.size, 6, none⟩ (.int .i64 (xr.at_ : Nat))).setCell ⟨w.heap.size, 7, none⟩ (.bool xr.td)).setCell ⟨w.heap.size, 8, none⟩ (.string (str xr.tm))).setCell ⟨w.heap.size, 9, none⟩ (.int .i64 (xr.wh : Nat))) w.heap.size (.slice A n cap) L from SX.out.fin)
          obtain ⟨z0, z1, z2, z3, z4, z5, z6, z7, z8, z9, zf, zl⟩ := SX.out.R
          obtain ⟨y0, y1, y2, y3, y4, y5, y6, y7, y8, y9, yf, yl⟩ := SX.out.Z
          dsimp only at z0 z1 z2 z3 z4 z5 z6 z7 z8 z9 y0 y1 y2 y3 y4 y5 y6 y7 y8 y9
          clear SX
          go_wp2
          clear z0 z1 z2 z3 z4 z5 z6 z7 z8 z9 zf zl y0 y1 y2 y3 y4 y5 y6 y7 y8 y9 yf yl
          generalize hWZ : ((((((((((w9.setCell ⟨w.heap.size, 0, none⟩ (.int .i64 xr.k)).setCell ⟨w.heap.size, 1, none⟩ (.string (str xr.n))).setCell ⟨w.heap.size, 2, none⟩ (.int .i64 (xr.off : Nat))).setCell ⟨w.heap.size, 3, none⟩ (.slice A n cap)).setCell ⟨w.heap.size, 4, none⟩ (.slice none 0 0)).setCell ⟨w.heap.size, 5, none⟩ (.string (str xr.text))).setCell ⟨w.heap.size, 6, none⟩ (.int .i64 (xr.at_ : Nat))).setCell ⟨w.heap.size, 7, none⟩ (.bool xr.td)).setCell ⟨w.heap.size, 8, none⟩ (.string (str xr.tm))).setCell ⟨w.heap.size, 9, none⟩ (.int .i64 (xr.wh : Nat))) = WZ at *
          clear hWZ
          obtain ⟨FC, FR, FG, FT⟩ := FZ.out
          obtain ⟨y0, y1, y2, y3, y4, y5, y6, y7, y8, y9, yf, yl⟩ := FR
          refine bodyPost_ret (v := rwv (xr, .slice A n cap)) (by simp [results, Tryd.results24, go_sem, y0, y1, y2, y3, y4, y5, y6, y7, y8, y9, rwv]) rfl ?_
          exact ⟨xr, A, n, cap, L, rfl, FC.to (by rw [hr.out.1]; rfl) (by rw [hr.out.1]; rfl), FG, FT, fun R r e => (by rw [hr.out.1] at e; injection e with e1 e2; exact ⟨e1, by rw [← e1]; exact hr.out.2⟩)⟩
        · rw [decide_eq_true q] at hdm
          rw [if_pos q] at HQ2
          have hrt := Ow.head_some q
          have hkl : s.length - r4.length + 1 = s.length - r4.tail.length := by
            have h1 := hrs.length_le
            have h2 := congrArg List.length hrt
            simp only [List.length_cons] at h2
            omega
          generalize Ow.hd r4 = HD at *
          obtain ⟨K1, hK1⟩ : ∃ k, k = s.length - r4.length := ⟨_, rfl⟩
          obtain ⟨K2, hK2⟩ : ∃ k, k = s.length - r4.tail.length := ⟨_, rfl⟩
          rw [← hK1] at c1 hkl
          rw [← hK2] at HQ2 hkl
          have hw : IntKind.i64.wrap ((K1 : Int) + 1) = (K2 : Int) := by
            rw [show (K1 : Int) + 1 = (K2 : Int) by omega]; exact IntWalk.i64_in _ (by omega)
          have CM : ScO (w9.setCell ⟨b, 1, none⟩ (.int .i64 (K2 : Nat))) b s (Ow.Out.ok () r4.tail) := ⟨(List.tail_suffix r4).trans hrs, by show ScA _ b s (s.length - r4.tail.length) false; rw [← hK2]; exact S9.out.C.num.move K2⟩
          have SA := Lib.hid (S9.out.call (sc_set (sc_below (Below.refl _ _) _)) CM)
          obtain ⟨z0, z1, z2, z3, z4, z5, z6, z7, z8, z9, zf, zl⟩ := SA.out.R
          have SB := Lib.hid (SA.out.sto (SA.out.R.set7 true))
          have SC := Lib.hid (SB.out.sto (SB.out.R.set9 K2))
          clear hK1 hK2 hkl CM S9 SA SB hrt q
          obtain ⟨z0, z1, z2, z3, z4, z5, z6, z7, z8, z9, zf, zl⟩ := SC.out.R
          go_wp2_with fail
          refine (number_calls (Ow.Out.ok () r4.tail) false b s _ SC.out.C (by unfold maxLen; omega)).mono ?_; rintro e wB ⟨⟨xB, rfl, hxB⟩, gB, CB⟩
          clear z0 z1 z2 z3 z4 z5 z6 z7 z8 z9 zf zl c0 c1 c2 cf cl
          obtain ⟨tm, rfl⟩ := text_is xB
          have CB : ScO wB b s (Ow.num false r4.tail) := CB
          have hxB : ∀ v r, Ow.num false r4.tail = .ok v r → tm = v := fun v r e => str_inj (hxB v r e)
          have SD := Lib.hid (SC.out.call gB CB)
          obtain ⟨z0, z1, z2, z3, z4, z5, z6, z7, z8, z9, zf, zl⟩ := SD.out.R
          have SE := Lib.hid (SD.out.sto (SD.out.R.set8 tm))
          obtain ⟨xr, hxr⟩ : ∃ xr : Ow.Rw, xr = ⟨0, nm, of, L, tx, at_, true, tm, K2⟩ := ⟨_, rfl⟩
          have SX := Lib.hid (show RmAt w (wB.setCell ⟨w.heap.size + 1, 8, none⟩ (.string (str tm))) b s (Ow.num false r4.tail) xr (.slice A n cap) L by rw [hxr]; have := SE.out; exact ⟨this.C, by obtain ⟨z0, z1, z2, z3, z4, z5, z6, z7, z8, z9, zf, zl⟩ := this.R; exact ⟨z0, z1, z2, z3, z4, z5, z6, z7, z8, z9, zf, zl⟩, this.Z, this.G, this.T, this.l1⟩)
          have hr := Lib.hid (show Q.rest = (Ow.num false r4.tail).rest ∧ Ow.fellB Q = Ow.fellB (Ow.num false r4.tail) ∧ ∀ R r, Q = .ok R r → xr = R ∧ L = R.tags by
            rw [HQ2.out, hxr]
            cases hq : Ow.num false r4.tail with
            | fell r => exact ⟨rfl, rfl, fun R r e => (by cases e)⟩
            | ok v r =>
              obtain rfl := hxB _ _ hq
              exact ⟨rfl, rfl, fun R r e => (by injection e with e1 e2; exact ⟨e1, by rw [← e1]⟩)⟩)
          clear SE SC SD HQ2 hxr gB CB hxB
          have FZ := Lib.hid (show ScO (((((((((((wB.setCell ⟨w.heap.size + 1, 8, none⟩ (.string (str tm))).setCell ⟨w.heap.size, 0, none⟩ (.int .i64 xr.k)).setCell ⟨w.heap.size, 1, none⟩ (.string (str xr.n))).setCell ⟨w.heap.size, 2, none⟩ (.int .i64 (xr.off : Nat))).setCell ⟨w.heap.size, 3, none⟩ (.slice A n cap)).setCell ⟨w.heap.size, 4, none⟩ (.slice none 0 0)).setCell ⟨w.heap.size, 5, none⟩ (.string (str xr.text))).setCell ⟨w.heap.size, 6, none⟩ (.int .i64 (xr.at_ : Nat))).setCell ⟨w.heap.size, 7, none⟩ (.bool xr.td)).setCell ⟨w.heap.size, 8, none⟩ (.string (str xr.tm))).setCell ⟨w.heap.size, 9, none⟩ (.int .i64 (xr.wh : Nat))) b s _ ∧ RwAt (((((((((((wB.setCell ⟨w.heap.size + 1, 8, none⟩ (.string (str tm))).setCell ⟨w.heap.size, 0, none⟩ (.int .i64 xr.k)).setCell ⟨w.heap.size, 1, none⟩ (.string (str xr.n))).setCell ⟨w.heap.size, 2, none⟩ (.int .i64 (xr.off : Nat))).setCell ⟨w.heap.size, 3, none⟩ (.slice A n cap)).setCell ⟨w.heap.size, 4, none⟩ (.slice none 0 0)).setCell ⟨w.heap.size, 5, none⟩ (.string (str xr.text))).setCell ⟨w.heap.size, 6, none⟩ (.int .i64 (xr.at_ : Nat))).setCell ⟨w.heap.size, 7, none⟩ (.bool xr.td)).setCell ⟨w.heap.size, 8, none⟩ (.string (str xr.tm))).setCell ⟨w.heap.size, 9, none⟩ (.int .i64 (xr.wh : Nat))) w.heap.size (xr, .slice A n cap) ∧ w.grownBy (((((((((((wB.setCell ⟨w.heap.size + 1, 8, none⟩ (.string (str tm))).setCell ⟨w.heap.size, 0, none⟩ (.int .i64 xr.k)).setCell ⟨w.heap.size, 1, none⟩ (.string (str xr.n))).setCell ⟨w.heap.size, 2, none⟩ (.int .i64 (xr.off : Nat))).setCell ⟨w.heap.size, 3, none⟩ (.slice A n cap)).setCell ⟨w.heap.size, 4, none⟩ (.slice none 0 0)).setCell ⟨w.heap.size, 5, none⟩ (.string (str xr.text))).setCell ⟨w.heap.size, 6, none⟩ (.int .i64 (xr.at_ : Nat))).setCell ⟨w.heap.size, 7, none⟩ (.bool xr.td)).setCell ⟨w.heap.size, 8, none⟩ (.string (str xr.tm))).setCell ⟨w.heap.size, 9, none⟩ (.int .i64 (xr.wh : Nat))) (some b) ∧ TgOwn (((((((((((wB.setCell ⟨w.heap.size + 1, 8, none⟩ (.string (str tm))).setCell ⟨w.heap.size, 0, none⟩ (.int .i64 xr.k)).setCell ⟨w.heap.size, 1, none⟩ (.string (str xr.n))).setCell ⟨w.heap.size, 2, none⟩ (.int .i64 (xr.off : Nat))).setCell ⟨w.heap.size, 3, none⟩ (.slice A n cap)).setCell ⟨w.heap.size, 4, none⟩ (.slice none 0 0)).setCell ⟨w.heap.size, 5, none⟩ (.string (str xr.text))).setCell ⟨w.heap.size, 6, none⟩ (.int .i64 (xr.at_ : Nat))).setCell ⟨w.heap.size, 7, none⟩ (.bool xr.td)).setCell ⟨w.heap.size, 8, none⟩ (.string (str xr.tm))).setCell ⟨w.heap.size, 9, none⟩ (.int .i64 (xr.wh : Nat))) w.heap.size (.slice A n cap) L from SX.out.fin)
          obtain ⟨z0, z1, z2, z3, z4, z5, z6, z7, z8, z9, zf, zl⟩ := SX.out.R
          obtain ⟨y0, y1, y2, y3, y4, y5, y6, y7, y8, y9, yf, yl⟩ := SX.out.Z
          dsimp only at z0 z1 z2 z3 z4 z5 z6 z7 z8 z9 y0 y1 y2 y3 y4 y5 y6 y7 y8 y9
          clear SX
          go_wp2
          clear z0 z1 z2 z3 z4 z5 z6 z7 z8 z9 zf zl y0 y1 y2 y3 y4 y5 y6 y7 y8 y9 yf yl
          generalize hWZ : (((((((((((wB.setCell ⟨w.heap.size + 1, 8, none⟩ (.string (str tm))).setCell ⟨w.heap.size, 0, none⟩ (.int .i64 xr.k)).setCell ⟨w.heap.size, 1, none⟩ (.string (str xr.n))).setCell ⟨w.heap.size, 2, none⟩ (.int .i64 (xr.off : Nat))).setCell ⟨w.heap.size, 3, none⟩ (.slice A n cap)).setCell ⟨w.heap.size, 4, none⟩ (.slice none 0 0)).setCell ⟨w.heap.size, 5, none⟩ (.string (str xr.text))).setCell ⟨w.heap.size, 6, none⟩ (.int .i64 (xr.at_ : Nat))).setCell ⟨w.heap.size, 7, none⟩ (.bool xr.td)).setCell ⟨w.heap.size, 8, none⟩ (.string (str xr.tm))).setCell ⟨w.heap.size, 9, none⟩ (.int .i64 (xr.wh : Nat))) = WZ at *
          clear hWZ
          obtain ⟨FC, FR, FG, FT⟩ := FZ.out
          obtain ⟨y0, y1, y2, y3, y4, y5, y6, y7, y8, y9, yf, yl⟩ := FR
          refine bodyPost_ret (v := rwv (xr, .slice A n cap)) (by simp [results, Tryd.results24, go_sem, y0, y1, y2, y3, y4, y5, y6, y7, y8, y9, rwv]) rfl ?_
          exact ⟨xr, A, n, cap, L, rfl, FC.to hr.out.1 hr.out.2.1, FG, FT, hr.out.2.2⟩
  | ok nm2 r1 =>
    obtain rfl := hn1 _ _ rfl
    have hdm : (Ow.hd r1 == (123 : Int)) = decide (r1.head? = some 123) := Ow.hd_is (l := r1) (c := 123) (by decide)
    rw [show (Ow.Out.ok nm r1).rest = r1 from rfl]
    clear ho1 hn1
    by_cases q : r1.head? = some 123
    rotate_left
    · rw [decide_eq_false q] at hdm
      have HQ1 := Lib.hid (show Q = (Ow.Out.ok ([] : List Ow.Tg) r1).bind fun tg r2 => (Ow.lit [32] r2).bind fun _ r3 => (Ow.num false r3).bind fun tx r4 =>
        if r4.head? = some 32 then (Ow.num false r4.tail).bind fun tm r5 => .ok ⟨0, nm, of, tg, tx, s.length - r3.length, true, tm, s.length - r4.tail.length⟩ r5
        else .ok ⟨0, nm, of, tg, tx, s.length - r3.length, false, [], 0⟩ r4 by
        have h := HQ0.out
        rw [h]; show Ow.Out.bind (if r1.head? = some 123 then _ else _) _ = _
        rw [if_neg q])
      obtain ⟨ot, hot⟩ : ∃ o : Ow.Out (List Ow.Tg), o = .ok [] r1 := ⟨_, rfl⟩
      clear HQ0 q
      generalize Ow.hd r1 = HD at *
      obtain ⟨A, hA⟩ : ∃ A : Option Addr, A = none := ⟨_, rfl⟩
      obtain ⟨n, hn⟩ : ∃ A : Nat, A = 0 := ⟨_, rfl⟩
      obtain ⟨cap, hcap⟩ : ∃ A : Nat, A = 0 := ⟨_, rfl⟩
      obtain ⟨L, hL⟩ : ∃ A : List Ow.Tg, A = [] := ⟨_, rfl⟩
      have S1 := Lib.hid (show RmAt w w4 b s ot ⟨0, nm, of, [], [], 0, false, [], 0⟩ (.slice A n cap) L by rw [hA, hn, hcap, hL, hot]; have := S4.out; exact ⟨this.C.to rfl rfl, this.R, this.Z, this.G, this.T, this.l1⟩)
      have HQ := Lib.hid (show Q = ot.bind fun tg r2 => (Ow.lit [32] r2).bind fun _ r3 => (Ow.num false r3).bind fun tx r4 =>
        if r4.head? = some 32 then (Ow.num false r4.tail).bind fun tm r5 => .ok ⟨0, nm, of, tg, tx, s.length - r3.length, true, tm, s.length - r4.tail.length⟩ r5
        else .ok ⟨0, nm, of, tg, tx, s.length - r3.length, false, [], 0⟩ r4 by rw [hot]; exact HQ1.out)
      have hot : ∀ tg r, ot = .ok tg r → L = tg := fun tg r e => (by rw [hot] at e; injection e with e1 e2; rw [hL, ← e1])
      clear hA hn hcap hL S4 HQ1
      go_upto_region 8 with fail
      clear HTags
      go_wp2_with fail
      refine (scl_calls _ [32] b s _ S1.out.C (by decide) (by unfold maxLen; omega)).mono ?_; rintro e w5 ⟨rfl, g5, C5⟩
      obtain ⟨o2, ho2⟩ : ∃ o, o = ot.bind fun _ r => Ow.lit [32] r := ⟨_, rfl⟩
      rw [← ho2] at C5
      have S5 := Lib.hid (S1.out.call g5 C5)
      obtain ⟨at_, hat⟩ : ∃ k, k = s.length - o2.rest.length := ⟨_, rfl⟩
      obtain ⟨c0, c1, c2, cf, cl⟩ := S5.out.C.num
      rw [← hat] at c1
      obtain ⟨z0, z1, z2, z3, z4, z5, z6, z7, z8, z9, zf, zl⟩ := S5.out.R
      have HAT := Lib.hid hat
      have S6 := Lib.hid (S5.out.sto (S5.out.R.set6 at_))
      clear hat g5 C5 S1 S5
      go_wp2_with fail
      clear z0 z1 z2 z3 z4 z5 z6 z7 z8 z9 zf zl c0 c1 c2 cf cl
      refine (number_calls o2 false b s _ S6.out.C (by unfold maxLen; omega)).mono ?_; rintro e w7 ⟨⟨x7, rfl, hx7⟩, g7, C7⟩
      obtain ⟨tx, rfl⟩ := text_is x7
      obtain ⟨o3, ho3⟩ : ∃ o, o = o2.bind fun _ r => Ow.num false r := ⟨_, rfl⟩
      rw [← ho3] at C7 hx7
      have hn7 : ∀ v r, o3 = .ok v r → tx = v := fun v r e => str_inj (hx7 v r e)
      have S7 := Lib.hid (S6.out.call g7 C7)
      obtain ⟨z0, z1, z2, z3, z4, z5, z6, z7, z8, z9, zf, zl⟩ := S7.out.R
      have S8 := Lib.hid (S7.out.sto (S7.out.R.set5 tx))
      clear g7 C7 S6 S7 hx7
      go_wp2_with fail
      clear z0 z1 z2 z3 z4 z5 z6 z7 z8 z9 zf zl
      refine (scnext_calls o3 b s _ S8.out.C (by unfold maxLen; omega)).mono ?_; rintro e w9 ⟨rfl, b9⟩
      have S9 := Lib.hid (S8.out.call (sc_below b9 _) (S8.out.C.below b9))
      clear b9 S8
      cases hP3 : o3 with
      | fell r3 =>
        rw [hP3] at S9
        have hr := Lib.hid (show Q = .fell r3 by
          have h3 := ho3; rw [hP3] at h3
          rw [HQ.out]
          cases ho : ot with
          | fell r =>
            rw [ho] at ho2; rw [ho2] at h3
            have e : r3 = r := by injection h3
            rw [e]; rfl
          | ok tg r =>
            rw [ho] at ho2
            have ho2 : o2 = Ow.lit [32] r := ho2
            show (Ow.lit [32] r).bind _ = _
            rw [← ho2]
            cases h2 : o2 with
            | fell r =>
              rw [h2] at h3
              have e : r3 = r := by injection h3
              rw [e]; rfl
            | ok u r =>
              rw [h2] at h3
              have h3 : Ow.Out.fell r3 = Ow.num false r := h3
              show (Ow.num false r).bind _ = _; rw [← h3]; rfl)
        obtain ⟨c0, c1, c2, cf, cl⟩ := S9.out.C.num
        obtain ⟨xr, hxr⟩ : ∃ xr : Ow.Rw, xr = ⟨0, nm, of, [], tx, at_, false, [], 0⟩ := ⟨_, rfl⟩
        have SX := Lib.hid (show RmAt w w9 b s (Ow.Out.fell r3 : Ow.Out (List UInt8)) xr (.slice A n cap) L by rw [hxr]; have := S9.out; exact ⟨this.C, by obtain ⟨z0, z1, z2, z3, z4, z5, z6, z7, z8, z9, zf, zl⟩ := this.R; exact ⟨z0, z1, z2, z3, z4, z5, z6, z7, z8, z9, zf, zl⟩, this.Z, this.G, this.T, this.l1⟩)
        clear S9 ho2 ho3 hP3 HQ hn7 hxr HAT
        generalize Ow.hd (Ow.Out.fell r3 : Ow.Out (List UInt8)).rest = HD
        obtain ⟨hb, hhb⟩ : ∃ hb, (HD == (32 : Int)) = hb := ⟨_, rfl⟩
        cases hb
        · have FZ := Lib.hid (show ScO ((((((((((w9.setCell ⟨w.heap.size, 0, none⟩ (.int .i64 xr.k)).setCell ⟨w.heap.size, 1, none⟩ (.string (str xr.n))).setCell ⟨w.heap.size, 2, none⟩ (.int .i64 (xr.off : Nat))).setCell ⟨w.heap.size, 3, none⟩ (.slice A n cap)).setCell ⟨w.heap.size, 4, none⟩ (.slice none 0 0)).setCell ⟨w.heap.size, 5, none⟩ (.string (str xr.text))).setCell ⟨w.heap.size, 6, none⟩ (.int .i64 (xr.at_ : Nat))).setCell ⟨w.heap.size, 7, none⟩ (.bool xr.td)).setCell ⟨w.heap.size, 8, none⟩ (.string (str xr.tm))).setCell ⟨w.heap.size, 9, none⟩ (.int .i64 (xr.wh : Nat))) b s _ ∧ RwAt ((((((((((w9.setCell ⟨w.heap.size, 0, none⟩ (.int .i64 xr.k)).setCell ⟨w.heap.size, 1, none⟩ (.string (str xr.n))).setCell ⟨w.heap.size, 2, none⟩ (.int .i64 (xr.off : Nat))).setCell ⟨w.heap.size, 3, none⟩ (.slice A n cap)).setCell ⟨w.heap.size, 4, none⟩ (.slice none 0 0)).setCell ⟨w.heap.size, 5, none⟩ (.string (str xr.text))).setCell ⟨w.heap.size, 6, none⟩ (.int .i64 (xr.at_ : Nat))).setCell ⟨w.heap.size, 7, none⟩ (.bool xr.td)).setCell ⟨w.heap.size, 8, none⟩ (.string (str xr.tm))).setCell ⟨w.heap.size, 9, none⟩ (.int .i64 (xr.wh : Nat))) w.heap.size (xr, .slice A n cap) ∧ w.grownBy ((((((((((w9.setCell ⟨w.heap.size, 0, none⟩ (.int .i64 xr.k)).setCell ⟨w.heap.size, 1, none⟩ (.string (str xr.n))).setCell ⟨w.heap.size, 2, none⟩ (.int .i64 (xr.off : Nat))).setCell ⟨w.heap.size, 3, none⟩ (.slice A n cap)).setCell ⟨w.heap.size, 4, none⟩ (.slice none 0 0)).setCell ⟨w.heap.size, 5, none⟩ (.string (str xr.text))).setCell ⟨w.heap.size, 6, none⟩ (.int .i64 (xr.at_ : Nat))).setCell ⟨w.heap.size, 7, none⟩ (.bool xr.td)).setCell ⟨w.heap.size, 8, none⟩ (.string (str xr.tm))).setCell ⟨w.heap.size, 9, none⟩ (.int .i64 (xr.wh : Nat))) (some b) ∧ TgOwn ((((((((((w9.setCell ⟨w.heap.size, 0, none⟩ (.int .i64 xr.k)).setCell ⟨w.heap.size, 1, none⟩ (.string (str xr.n))).setCell ⟨w.heap.size, 2, none⟩ (.int .i64 (xr.off : Nat))).setCell ⟨w.heap.size, 3, none⟩ (.slice A n cap)).setCell ⟨w.heap.size, 4, none⟩ (.slice none 0 0)).setCell ⟨w.heap.size, 5, none⟩ (.string (str xr.text))).setCell ⟨w.heap.size, 6, none⟩ (.int .i64 (xr.at_ : Nat))).setCell ⟨w.heap.size, 7, none⟩ (.bool xr.td)).setCell ⟨w.heap.size, 8, none⟩ (.string (str xr.tm))).setCell ⟨w.heap.size, 9, none⟩ (.int .i64 (xr.wh : Nat))) w.heap.size (.slice A n cap) L from SX.out.fin)
          obtain ⟨z0, z1, z2, z3, z4, z5, z6, z7, z8, z9, zf, zl⟩ := SX.out.R
          obtain ⟨y0, y1, y2, y3, y4, y5, y6, y7, y8, y9, yf, yl⟩ := SX.out.Z
          dsimp only at z0 z1 z2 z3 z4 z5 z6 z7 z8 z9 y0 y1 y2 y3 y4 y5 y6 y7 y8 y9
          clear SX
          go_wp2
          clear z0 z1 z2 z3 z4 z5 z6 z7 z8 z9 zf zl y0 y1 y2 y3 y4 y5 y6 y7 y8 y9 yf yl
          generalize hWZ : ((((((((((w9.setCell ⟨w.heap.size, 0, none⟩ (.int .i64 xr.k)).setCell ⟨w.heap.size, 1, none⟩ (.string (str xr.n))).setCell ⟨w.heap.size, 2, none⟩ (.int .i64 (xr.off : Nat))).setCell ⟨w.heap.size, 3, none⟩ (.slice A n cap)).setCell ⟨w.heap.size, 4, none⟩ (.slice none 0 0)).setCell ⟨w.heap.size, 5, none⟩ (.string (str xr.text))).setCell ⟨w.heap.size, 6, none⟩ (.int .i64 (xr.at_ : Nat))).setCell ⟨w.heap.size, 7, none⟩ (.bool xr.td)).setCell ⟨w.heap.size, 8, none⟩ (.string (str xr.tm))).setCell ⟨w.heap.size, 9, none⟩ (.int .i64 (xr.wh : Nat))) = WZ at *
          clear hWZ
          obtain ⟨FC, FR, FG, FT⟩ := FZ.out
          obtain ⟨y0, y1, y2, y3, y4, y5, y6, y7, y8, y9, yf, yl⟩ := FR
          refine bodyPost_ret (v := rwv (xr, .slice A n cap)) (by simp [results, Tryd.results24, go_sem, y0, y1, y2, y3, y4, y5, y6, y7, y8, y9, rwv]) rfl ?_
          exact ⟨xr, A, n, cap, L, rfl, FC.to (by rw [hr.out]; rfl) (by rw [hr.out]; rfl), FG, FT, fun R r e => (by rw [hr.out] at e; cases e)⟩
        · have FZ := Lib.hid (show ScO ((((((((((w9.setCell ⟨w.heap.size, 0, none⟩ (.int .i64 xr.k)).setCell ⟨w.heap.size, 1, none⟩ (.string (str xr.n))).setCell ⟨w.heap.size, 2, none⟩ (.int .i64 (xr.off : Nat))).setCell ⟨w.heap.size, 3, none⟩ (.slice A n cap)).setCell ⟨w.heap.size, 4, none⟩ (.slice none 0 0)).setCell ⟨w.heap.size, 5, none⟩ (.string (str xr.text))).setCell ⟨w.heap.size, 6, none⟩ (.int .i64 (xr.at_ : Nat))).setCell ⟨w.heap.size, 7, none⟩ (.bool xr.td)).setCell ⟨w.heap.size, 8, none⟩ (.string (str xr.tm))).setCell ⟨w.heap.size, 9, none⟩ (.int .i64 (xr.wh : Nat))) b s _ ∧ RwAt ((((((((((w9.setCell ⟨w.heap.size, 0, none⟩ (.int .i64 xr.k)).setCell ⟨w.heap.size, 1, none⟩ (.string (str xr.n))).setCell ⟨w.heap.size, 2, none⟩ (.int .i64 (xr.off : Nat))).setCell ⟨w.heap.size, 3, none⟩ (.slice A n cap)).setCell ⟨w.heap.size, 4, none⟩ (.slice none 0 0)).setCell ⟨w.heap.size, 5, none⟩ (.string (str xr.text))).setCell ⟨w.heap.size, 6, none⟩ (.int .i64 (xr.at_ : Nat))).setCell ⟨w.heap.size, 7, none⟩ (.bool xr.td)).setCell ⟨w.heap.size, 8, none⟩ (.string (str xr.tm))).setCell ⟨w.heap.size, 9, none⟩ (.int .i64 (xr.wh : Nat))) w.heap.size (xr, .slice A n cap) ∧ w.grownBy ((((((((((w9.setCell ⟨w.heap.size, 0, none⟩ (.int .i64 xr.k)).setCell ⟨w.heap.size, 1, none⟩ (.string (str xr.n))).setCell ⟨w.heap.size, 2, none⟩ (.int .i64 (xr.off : Nat))).setCell ⟨w.heap.size, 3, none⟩ (.slice A n cap)).setCell ⟨w.heap.size, 4, none⟩ (.slice none 0 0)).setCell ⟨w.heap.size, 5, none⟩ (.string (str xr.text))).setCell ⟨w.heap.size, 6, none⟩ (.int .i64 (xr.at_ : Nat))).setCell ⟨w.heap.size, 7, none⟩ (.bool xr.td)).setCell ⟨w.heap.size, 8, none⟩ (.string (str xr.tm))).setCell ⟨w.heap.size, 9, none⟩ (.int .i64 (xr.wh : Nat))) (some b) ∧ TgOwn ((((((((((w9.setCell ⟨w.heap.size, 0, none⟩ (.int .i64 xr.k)).setCell ⟨w.heap.size, 1, none⟩ (.string (str xr.n))).setCell ⟨w.heap.size, 2, none⟩ (.int .i64 (xr.off : Nat))).setCell ⟨w.heap.size, 3, none⟩ (.slice A n cap)).setCell ⟨w.heap.size, 4, none⟩ (.slice none 0 0)).setCell ⟨w.heap.size, 5, none⟩ (.string (str xr.text))).setCell ⟨w.heap.size, 6, none⟩ (.int .i64 (xr.at_ : Nat))).setCell ⟨w.heap.size, 7, none⟩ (.bool xr.td)).setCell ⟨w.heap.size, 8, none⟩ (.string (str xr.tm))).setCell ⟨w.heap.size, 9, none⟩ (.int .i64 (xr.wh : Nat))) w.heap.size (.slice A n cap) L from SX.out.fin)
          obtain ⟨z0, z1, z2, z3, z4, z5, z6, z7, z8, z9, zf, zl⟩ := SX.out.R
          obtain ⟨y0, y1, y2, y3, y4, y5, y6, y7, y8, y9, yf, yl⟩ := SX.out.Z
          dsimp only at z0 z1 z2 z3 z4 z5 z6 z7 z8 z9 y0 y1 y2 y3 y4 y5 y6 y7 y8 y9
          clear SX
          go_wp2
          clear z0 z1 z2 z3 z4 z5 z6 z7 z8 z9 zf zl y0 y1 y2 y3 y4 y5 y6 y7 y8 y9 yf yl
          generalize hWZ : ((((((((((w9.setCell ⟨w.heap.size, 0, none⟩ (.int .i64 xr.k)).setCell ⟨w.heap.size, 1, none⟩ (.string (str xr.n))).setCell ⟨w.heap.size, 2, none⟩ (.int .i64 (xr.off : Nat))).setCell ⟨w.heap.size, 3, none⟩ (.slice A n cap)).setCell ⟨w.heap.size, 4, none⟩ (.slice none 0 0)).setCell ⟨w.heap.size, 5, none⟩ (.string (str xr.text))).setCell ⟨w.heap.size, 6, none⟩ (.int .i64 (xr.at_ : Nat))).setCell ⟨w.heap.size, 7, none⟩ (.bool xr.td)).setCell ⟨w.heap.size, 8, none⟩ (.string (str xr.tm))).setCell ⟨w.heap.size, 9, none⟩ (.int .i64 (xr.wh : Nat))) = WZ at *
          clear hWZ
          obtain ⟨FC, FR, FG, FT⟩ := FZ.out
          obtain ⟨y0, y1, y2, y3, y4, y5, y6, y7, y8, y9, yf, yl⟩ := FR
          refine bodyPost_ret (v := rwv (xr, .slice A n cap)) (by simp [results, Tryd.results24, go_sem, y0, y1, y2, y3, y4, y5, y6, y7, y8, y9, rwv]) rfl ?_
          exact ⟨xr, A, n, cap, L, rfl, FC.to (by rw [hr.out]; rfl) (by rw [hr.out]; rfl), FG, FT, fun R r e => (by rw [hr.out] at e; cases e)⟩
      | ok tx2 r4 =>
        rw [hP3] at S9
        obtain rfl := hn7 _ _ hP3
        obtain ⟨tg, r2, u, r3, hot1, ho21⟩ : ∃ tg r2 u r3, ot = .ok tg r2 ∧ o2 = .ok u r3 := by
          cases ho : ot with
          | fell r => rw [ho] at ho2; rw [ho2] at ho3; rw [ho3] at hP3; cases hP3
          | ok tg r2 =>
            cases h2 : o2 with
            | fell r => rw [h2] at ho3; rw [ho3] at hP3; cases hP3
            | ok u r3 => exact ⟨tg, r2, u, r3, rfl, rfl⟩
        have hl32 : Ow.lit [32] r2 = .ok u r3 := by rw [← ho21, ho2, hot1]; rfl
        have hnum : Ow.num false r3 = .ok tx r4 := by rw [← hP3, ho3, ho21]; rfl
        obtain rfl := hot _ _ hot1
        have hat : at_ = s.length - r3.length := by rw [HAT.out, ho21]; rfl
        have HQ2 := Lib.hid (show Q = if r4.head? = some 32 then (Ow.num false r4.tail).bind fun tm r5 => .ok ⟨0, nm, of, L, tx, at_, true, tm, s.length - r4.tail.length⟩ r5 else .ok ⟨0, nm, of, L, tx, at_, false, [], 0⟩ r4 by
          rw [HQ.out, hot1]; show (Ow.lit [32] r2).bind _ = _; rw [hl32]; show (Ow.num false r3).bind _ = _; rw [hnum, hat]; rfl)
        have hrs : r4 <:+ s := S9.out.C.suf
        obtain ⟨c0, c1, c2, cf, cl⟩ := S9.out.C.num
        have hdm : (Ow.hd r4 == (32 : Int)) = decide (r4.head? = some 32) := Ow.hd_is (l := r4) (c := 32) (by decide)
        clear ho2 ho3 hP3 HQ hn7 HAT hot1 ho21 hl32 hnum hat
        rw [show (Ow.Out.ok tx r4).rest = r4 from rfl]
        rw [show s.length - (Ow.Out.ok tx r4).rest.length = s.length - r4.length from rfl] at c1
        by_cases q : r4.head? = some 32
        rotate_left
        · rw [decide_eq_false q] at hdm
          rw [if_neg q] at HQ2
          generalize Ow.hd r4 = HD at *
          obtain ⟨xr, hxr⟩ : ∃ xr : Ow.Rw, xr = ⟨0, nm, of, L, tx, at_, false, [], 0⟩ := ⟨_, rfl⟩
          have SX := Lib.hid (show RmAt w w9 b s (Ow.Out.ok tx r4) xr (.slice A n cap) L by rw [hxr]; have := S9.out; exact ⟨this.C, by obtain ⟨z0, z1, z2, z3, z4, z5, z6, z7, z8, z9, zf, zl⟩ := this.R; exact ⟨z0, z1, z2, z3, z4, z5, z6, z7, z8, z9, zf, zl⟩, this.Z, this.G, this.T, this.l1⟩)
          have hr := Lib.hid (show Q = .ok xr r4 ∧ L = xr.tags by rw [HQ2.out, hxr]; exact ⟨rfl, rfl⟩)
          clear S9 HQ2 hxr q
          have FZ := Lib.hid (show ScO ((((((((((w9.setCell ⟨w.heap.size, 0, none⟩ (.int .i64 xr.k)).setCell ⟨w.heap.size, 1, none⟩ (.string (str xr.n))).setCell ⟨w.heap.size, 2, none⟩ (.int .i64 (xr.off : Nat))).setCell ⟨w.heap.size, 3, none⟩ (.slice A n cap)).setCell ⟨w.heap.size, 4, none⟩ (.slice none 0 0)).setCell ⟨w.heap.size, 5, none⟩ (.string (str xr.text))).setCell ⟨w.heap.size, 6, none⟩ (.int .i64 (xr.at_ : Nat))).setCell ⟨w.heap.size, 7, none⟩ (.bool xr.td)).setCell ⟨w.heap.size, 8, none⟩ (.string (str xr.tm))).setCell ⟨w.heap.size, 9, none⟩ (.int .i64 (xr.wh : Nat))) b s _ ∧ RwAt ((((((((((w9.setCell ⟨w.heap.size, 0, none⟩ (.int .i64 xr.k)).setCell ⟨w.heap.size, 1, none⟩ (.string (str xr.n))).setCell ⟨w.heap.size, 2, none⟩ (.int .i64 (xr.off : Nat))).setCell ⟨w.heap.size, 3, none⟩ (.slice A n cap)).setCell ⟨w.heap.size, 4, none⟩ (.slice none 0 0)).setCell ⟨w.heap.size, 5, none⟩ (.string (str xr.text))).setCell ⟨w.heap.size, 6, none⟩ (.int .i64 (xr.at_ : Nat))).setCell ⟨w.heap.size, 7, none⟩ (.bool xr.td)).setCell ⟨w.heap.size, 8, none⟩ (.string (str xr.tm))).setCell ⟨w.heap.size, 9, none⟩ (.int .i64 (xr.wh : Nat))) w.heap.size (xr, .slice A n cap) ∧ w.grownBy ((((((((((w9.setCell ⟨w.heap.size, 0, none⟩ (.int .i64 xr.k)).setCell ⟨w.heap.size, 1, none⟩ (.string (str xr.n))).setCell ⟨w.heap.size, 2, none⟩ (.int .i64 (xr.off : Nat))).setCell ⟨w.heap.size, 3, none⟩ (.slice A n cap)).setCell ⟨w.heap.size, 4, none⟩ (.slice none 0 0)).setCell ⟨w.heap.size, 5, none⟩ (.string (str xr.text))).setCell ⟨w.heap.size, 6, none⟩ (.int .i64 (xr.at_ : Nat))).setCell ⟨w.heap.size, 7, none⟩ (.bool xr.td)).setCell ⟨w.heap.size, 8, none⟩ (.string (str xr.tm))).setCell ⟨w.heap.size, 9, none⟩ (.int .i64 (xr.wh : Nat))) (some b) ∧ TgOwn ((((((((((w9.setCell ⟨w.heap.size, 0, none⟩ (.int .i64 xr.k)).setCell ⟨w.heap.size, 1, none⟩ (.string (str xr.n))).setCell ⟨w.heap.size, 2, none⟩ (.int .i64 (xr.off : Nat))).setCell ⟨w.heap.size, 3, none⟩ (.slice A n cap)).setCell ⟨w.heap.size, 4, none⟩ (.slice none 0 0)).setCell ⟨w.heap.size, 5, none⟩ (.string (str xr.text))).setCell ⟨w.heap.size, 6, none⟩ (.int .i64 (xr.at_ : Nat))).setCell ⟨w.heap.size, 7, none⟩ (.bool xr.td)).setCell ⟨w.heap.size, 8, none⟩ (.string (str xr.tm))).setCell ⟨w.heap.size, 9, none⟩ (.int .i64 (xr.wh : Nat))) w.heap.size (.slice A n cap) L from SX.out.fin)
          obtain ⟨z0, z1, z2, z3, z4, z5, z6, z7, z8, z9, zf, zl⟩ := SX.out.R
          obtain ⟨y0, y1, y2, y3, y4, y5, y6, y7, y8, y9, yf, yl⟩ := SX.out.Z
          dsimp only at z0 z1 z2 z3 z4 z5 z6 z7 z8 z9 y0 y1 y2 y3 y4 y5 y6 y7 y8 y9
          clear SX
          go_wp2
          clear z0 z1 z2 z3 z4 z5 z6 z7 z8 z9 zf zl y0 y1 y2 y3 y4 y5 y6 y7 y8 y9 yf yl
          generalize hWZ : ((((((((((w9.setCell ⟨w.heap.size, 0, none⟩ (.int .i64 xr.k)).setCell ⟨w.heap.size, 1, none⟩ (.string (str xr.n))).setCell ⟨w.heap.size, 2, none⟩ (.int .i64 (xr.off : Nat))).setCell ⟨w.heap.size, 3, none⟩ (.slice A n cap)).setCell ⟨w.heap.size, 4, none⟩ (.slice none 0 0)).setCell ⟨w.heap.size, 5, none⟩ (.string (str xr.text))).setCell ⟨w.heap.size, 6, none⟩ (.int .i64 (xr.at_ : Nat))).setCell ⟨w.heap.size, 7, none⟩ (.bool xr.td)).setCell ⟨w.heap.size, 8, none⟩ (.string (str xr.tm))).setCell ⟨w.heap.size, 9, none⟩ (.int .i64 (xr.wh : Nat))) = WZ at *
          clear hWZ
          obtain ⟨FC, FR, FG, FT⟩ := FZ.out
          obtain ⟨y0, y1, y2, y3, y4, y5, y6, y7, y8, y9, yf, yl⟩ := FR
          refine bodyPost_ret (v := rwv (xr, .slice A n cap)) (by simp [results, Tryd.results24, go_sem, y0, y1, y2, y3, y4, y5, y6, y7, y8, y9, rwv]) rfl ?_
          exact ⟨xr, A, n, cap, L, rfl, FC.to (by rw [hr.out.1]; rfl) (by rw [hr.out.1]; rfl), FG, FT, fun R r e => (by rw [hr.out.1] at e; injection e with e1 e2; exact ⟨e1, by rw [← e1]; exact hr.out.2⟩)⟩
        · rw [decide_eq_true q] at hdm
          rw [if_pos q] at HQ2
          have hrt := Ow.head_some q
          have hkl : s.length - r4.length + 1 = s.length - r4.tail.length := by
            have h1 := hrs.length_le
            have h2 := congrArg List.length hrt
            simp only [List.length_cons] at h2
            omega
          generalize Ow.hd r4 = HD at *
          obtain ⟨K1, hK1⟩ : ∃ k, k = s.length - r4.length := ⟨_, rfl⟩
          obtain ⟨K2, hK2⟩ : ∃ k, k = s.length - r4.tail.length := ⟨_, rfl⟩
          rw [← hK1] at c1 hkl
          rw [← hK2] at HQ2 hkl
          have hw : IntKind.i64.wrap ((K1 : Int) + 1) = (K2 : Int) := by
            rw [show (K1 : Int) + 1 = (K2 : Int) by omega]; exact IntWalk.i64_in _ (by omega)
          have CM : ScO (w9.setCell ⟨b, 1, none⟩ (.int .i64 (K2 : Nat))) b s (Ow.Out.ok () r4.tail) := ⟨(List.tail_suffix r4).trans hrs, by show ScA _ b s (s.length - r4.tail.length) false; rw [← hK2]; exact S9.out.C.num.move K2⟩
          have SA := Lib.hid (S9.out.call (sc_set (sc_below (Below.refl _ _) _)) CM)
          obtain ⟨z0, z1, z2, z3, z4, z5, z6, z7, z8, z9, zf, zl⟩ := SA.out.R
          have SB := Lib.hid (SA.out.sto (SA.out.R.set7 true))
          have SC := Lib.hid (SB.out.sto (SB.out.R.set9 K2))
          clear hK1 hK2 hkl CM S9 SA SB hrt q
          obtain ⟨z0, z1, z2, z3, z4, z5, z6, z7, z8, z9, zf, zl⟩ := SC.out.R
          go_wp2_with fail
          refine (number_calls (Ow.Out.ok () r4.tail) false b s _ SC.out.C (by unfold maxLen; omega)).mono ?_; rintro e wB ⟨⟨xB, rfl, hxB⟩, gB, CB⟩
          clear z0 z1 z2 z3 z4 z5 z6 z7 z8 z9 zf zl c0 c1 c2 cf cl
          obtain ⟨tm, rfl⟩ := text_is xB
          have CB : ScO wB b s (Ow.num false r4.tail) := CB
          have hxB : ∀ v r, Ow.num false r4.tail = .ok v r → tm = v := fun v r e => str_inj (hxB v r e)
          have SD := Lib.hid (SC.out.call gB CB)
          obtain ⟨z0, z1, z2, z3, z4, z5, z6, z7, z8, z9, zf, zl⟩ := SD.out.R
          have SE := Lib.hid (SD.out.sto (SD.out.R.set8 tm))
          obtain ⟨xr, hxr⟩ : ∃ xr : Ow.Rw, xr = ⟨0, nm, of, L, tx, at_, true, tm, K2⟩ := ⟨_, rfl⟩
          have SX := Lib.hid (show RmAt w (wB.setCell ⟨w.heap.size + 1, 8, none⟩ (.string (str tm))) b s (Ow.num false r4.tail) xr (.slice A n cap) L by rw [hxr]; have := SE.out; exact ⟨this.C, by obtain ⟨z0, z1, z2, z3, z4, z5, z6, z7, z8, z9, zf, zl⟩ := this.R; exact ⟨z0, z1, z2, z3, z4, z5, z6, z7, z8, z9, zf, zl⟩, this.Z, this.G, this.T, this.l1⟩)
          have hr := Lib.hid (show Q.rest = (Ow.num false r4.tail).rest ∧ Ow.fellB Q = Ow.fellB (Ow.num false r4.tail) ∧ ∀ R r, Q = .ok R r → xr = R ∧ L = R.tags by
            rw [HQ2.out, hxr]
            cases hq : Ow.num false r4.tail with
            | fell r => exact ⟨rfl, rfl, fun R r e => (by cases e)⟩
            | ok v r =>
              obtain rfl := hxB _ _ hq
              exact ⟨rfl, rfl, fun R r e => (by injection e with e1 e2; exact ⟨e1, by rw [← e1]⟩)⟩)
          clear SE SC SD HQ2 hxr gB CB hxB
          have FZ := Lib.hid (show ScO (((((((((((wB.setCell ⟨w.heap.size + 1, 8, none⟩ (.string (str tm))).setCell ⟨w.heap.size, 0, none⟩ (.int .i64 xr.k)).setCell ⟨w.heap.size, 1, none⟩ (.string (str xr.n))).setCell ⟨w.heap.size, 2, none⟩ (.int .i64 (xr.off : Nat))).setCell ⟨w.heap.size, 3, none⟩ (.slice A n cap)).setCell ⟨w.heap.size, 4, none⟩ (.slice none 0 0)).setCell ⟨w.heap.size, 5, none⟩ (.string (str xr.text))).setCell ⟨w.heap.size, 6, none⟩ (.int .i64 (xr.at_ : Nat))).setCell ⟨w.heap.size, 7, none⟩ (.bool xr.td)).setCell ⟨w.heap.size, 8, none⟩ (.string (str xr.tm))).setCell ⟨w.heap.size, 9, none⟩ (.int .i64 (xr.wh : Nat))) b s _ ∧ RwAt (((((((((((wB.setCell ⟨w.heap.size + 1, 8, none⟩ (.string (str tm))).setCell ⟨w.heap.size, 0, none⟩ (.int .i64 xr.k)).setCell ⟨w.heap.size, 1, none⟩ (.string (str xr.n))).setCell ⟨w.heap.size, 2, none⟩ (.int .i64 (xr.off : Nat))).setCell ⟨w.heap.size, 3, none⟩ (.slice A n cap)).setCell ⟨w.heap.size, 4, none⟩ (.slice none 0 0)).setCell ⟨w.heap.size, 5, none⟩ (.string (str xr.text))).setCell ⟨w.heap.size, 6, none⟩ (.int .i64 (xr.at_ : Nat))).setCell ⟨w.heap.size, 7, none⟩ (.bool xr.td)).setCell ⟨w.heap.size, 8, none⟩ (.string (str xr.tm))).setCell ⟨w.heap.size, 9, none⟩ (.int .i64 (xr.wh : Nat))) w.heap.size (xr, .slice A n cap) ∧ w.grownBy (((((((((((wB.setCell ⟨w.heap.size + 1, 8, none⟩ (.string (str tm))).setCell ⟨w.heap.size, 0, none⟩ (.int .i64 xr.k)).setCell ⟨w.heap.size, 1, none⟩ (.string (str xr.n))).setCell ⟨w.heap.size, 2, none⟩ (.int .i64 (xr.off : Nat))).setCell ⟨w.heap.size, 3, none⟩ (.slice A n cap)).setCell ⟨w.heap.size, 4, none⟩ (.slice none 0 0)).setCell ⟨w.heap.size, 5, none⟩ (.string (str xr.text))).setCell ⟨w.heap.size, 6, none⟩ (.int .i64 (xr.at_ : Nat))).setCell ⟨w.heap.size, 7, none⟩ (.bool xr.td)).setCell ⟨w.heap.size, 8, none⟩ (.string (str xr.tm))).setCell ⟨w.heap.size, 9, none⟩ (.int .i64 (xr.wh : Nat))) (some b) ∧ TgOwn (((((((((((wB.setCell ⟨w.heap.size + 1, 8, none⟩ (.string (str tm))).setCell ⟨w.heap.size, 0, none⟩ (.int .i64 xr.k)).setCell ⟨w.heap.size, 1, none⟩ (.string (str xr.n))).setCell ⟨w.heap.size, 2, none⟩ (.int .i64 (xr.off : Nat))).setCell ⟨w.heap.size, 3, none⟩ (.slice A n cap)).setCell ⟨w.heap.size, 4, none⟩ (.slice none 0 0)).setCell ⟨w.heap.size, 5, none⟩ (.string (str xr.text))).setCell ⟨w.heap.size, 6, none⟩ (.int .i64 (xr.at_ : Nat))).setCell ⟨w.heap.size, 7, none⟩ (.bool xr.td)).setCell ⟨w.heap.size, 8, none⟩ (.string (str xr.tm))).setCell ⟨w.heap.size, 9, none⟩ (.int .i64 (xr.wh : Nat))) w.heap.size (.slice A n cap) L from SX.out.fin)
          obtain ⟨z0, z1, z2, z3, z4, z5, z6, z7, z8, z9, zf, zl⟩ := SX.out.R
          obtain ⟨y0, y1, y2, y3, y4, y5, y6, y7, y8, y9, yf, yl⟩ := SX.out.Z
          dsimp only at z0 z1 z2 z3 z4 z5 z6 z7 z8 z9 y0 y1 y2 y3 y4 y5 y6 y7 y8 y9
          clear SX
          go_wp2
          clear z0 z1 z2 z3 z4 z5 z6 z7 z8 z9 zf zl y0 y1 y2 y3 y4 y5 y6 y7 y8 y9 yf yl
          generalize hWZ : (((((((((((wB.setCell ⟨w.heap.size + 1, 8, none⟩ (.string (str tm))).setCell ⟨w.heap.size, 0, none⟩ (.int .i64 xr.k)).setCell ⟨w.heap.size, 1, none⟩ (.string (str xr.n))).setCell ⟨w.heap.size, 2, none⟩ (.int .i64 (xr.off : Nat))).setCell ⟨w.heap.size, 3, none⟩ (.slice A n cap)).setCell ⟨w.heap.size, 4, none⟩ (.slice none 0 0)).setCell ⟨w.heap.size, 5, none⟩ (.string (str xr.text))).setCell ⟨w.heap.size, 6, none⟩ (.int .i64 (xr.at_ : Nat))).setCell ⟨w.heap.size, 7, none⟩ (.bool xr.td)).setCell ⟨w.heap.size, 8, none⟩ (.string (str xr.tm))).setCell ⟨w.heap.size, 9, none⟩ (.int .i64 (xr.wh : Nat))) = WZ at *
          clear hWZ
          obtain ⟨FC, FR, FG, FT⟩ := FZ.out
          obtain ⟨y0, y1, y2, y3, y4, y5, y6, y7, y8, y9, yf, yl⟩ := FR
          refine bodyPost_ret (v := rwv (xr, .slice A n cap)) (by simp [results, Tryd.results24, go_sem, y0, y1, y2, y3, y4, y5, y6, y7, y8, y9, rwv]) rfl ?_
          exact ⟨xr, A, n, cap, L, rfl, FC.to hr.out.1 hr.out.2.1, FG, FT, hr.out.2.2⟩
    rw [decide_eq_true q] at hdm
    have HQ1 := Lib.hid (show Q = (if r1.tail.head? = some 125 then .ok [] r1.tail.tail else Ow.tags s.length r1.tail).bind fun tg r2 => (Ow.lit [32] r2).bind fun _ r3 => (Ow.num false r3).bind fun tx r4 =>
      if r4.head? = some 32 then (Ow.num false r4.tail).bind fun tm r5 => .ok ⟨0, nm, of, tg, tx, s.length - r3.length, true, tm, s.length - r4.tail.length⟩ r5
      else .ok ⟨0, nm, of, tg, tx, s.length - r3.length, false, [], 0⟩ r4 by
      have h := HQ0.out
      rw [h]; show Ow.Out.bind (if r1.head? = some 123 then _ else _) _ = _
      rw [if_pos q])
    clear HQ0
    generalize Ow.hd r1 = HD at *
    have hrt := Ow.head_some q
    have hrs : r1 <:+ s := S4.out.C.suf
    have hkl : s.length - r1.length + 1 = s.length - r1.tail.length := by
      have h1 := hrs.length_le
      have h2 := congrArg List.length hrt
      simp only [List.length_cons] at h2
      omega
    obtain ⟨c0, c1, c2, cf, cl⟩ := S4.out.C.num
    rw [show s.length - (Ow.Out.ok nm r1).rest.length = s.length - r1.length from rfl] at c1
    obtain ⟨K1, hK1⟩ : ∃ k, k = s.length - r1.length := ⟨_, rfl⟩
    obtain ⟨K2, hK2⟩ : ∃ k, k = s.length - r1.tail.length := ⟨_, rfl⟩
    rw [← hK1] at c1 hkl
    rw [← hK2] at hkl
    have hw : IntKind.i64.wrap ((K1 : Int) + 1) = (K2 : Int) := by
      rw [show (K1 : Int) + 1 = (K2 : Int) by omega]; exact IntWalk.i64_in _ (by omega)
    have CM : ScO (w4.setCell ⟨b, 1, none⟩ (.int .i64 (K2 : Nat))) b s (Ow.Out.ok () r1.tail) := ⟨(List.tail_suffix r1).trans hrs, by show ScA _ b s (s.length - r1.tail.length) false; rw [← hK2]; exact S4.out.C.num.move K2⟩
    have S5 := Lib.hid (S4.out.call (sc_set (sc_below (Below.refl _ _) _)) CM)
    clear hK1 hK2 hkl CM S4 hrt hrs
    clear q
    go_wp2_with fail
    clear c0 c1 c2 cf cl hw
    refine (scnext_calls (Ow.Out.ok () r1.tail) b s _ S5.out.C (by unfold maxLen; omega)).mono ?_; rintro e w6 ⟨rfl, b6⟩
    have S6 := Lib.hid (S5.out.call (sc_below b6 _) (S5.out.C.below b6))
    clear b6 S5
    have hdm2 : (Ow.hd r1.tail == (125 : Int)) = decide (r1.tail.head? = some 125) := Ow.hd_is (l := r1.tail) (c := 125) (by decide)
    rw [show (Ow.Out.ok () r1.tail).rest = r1.tail from rfl]
    generalize r1.tail = r1t at *
    by_cases q : r1t.head? = some 125
    · rw [decide_eq_true q] at hdm2
      rw [if_pos q] at HQ1
      obtain ⟨ot, hot⟩ : ∃ o : Ow.Out (List Ow.Tg), o = .ok [] r1t.tail := ⟨_, rfl⟩
      generalize Ow.hd r1t = HD2 at *
      have hrt := Ow.head_some q
      have hrs : r1t <:+ s := S6.out.C.suf
      have hkl : s.length - r1t.length + 1 = s.length - r1t.tail.length := by
        have h1 := hrs.length_le
        have h2 := congrArg List.length hrt
        simp only [List.length_cons] at h2
        omega
      obtain ⟨c0, c1, c2, cf, cl⟩ := S6.out.C.num
      rw [show s.length - (Ow.Out.ok () r1t).rest.length = s.length - r1t.length from rfl] at c1
      obtain ⟨K1, hK1⟩ : ∃ k, k = s.length - r1t.length := ⟨_, rfl⟩
      obtain ⟨K2, hK2⟩ : ∃ k, k = s.length - r1t.tail.length := ⟨_, rfl⟩
      rw [← hK1] at c1 hkl
      rw [← hK2] at hkl
      have hw : IntKind.i64.wrap ((K1 : Int) + 1) = (K2 : Int) := by
        rw [show (K1 : Int) + 1 = (K2 : Int) by omega]; exact IntWalk.i64_in _ (by omega)
      have CM : ScO (w6.setCell ⟨b, 1, none⟩ (.int .i64 (K2 : Nat))) b s (Ow.Out.ok () r1t.tail) := ⟨(List.tail_suffix r1t).trans hrs, by show ScA _ b s (s.length - r1t.tail.length) false; rw [← hK2]; exact S6.out.C.num.move K2⟩
      have S7 := Lib.hid (S6.out.call (sc_set (sc_below (Below.refl _ _) _)) CM)
      clear hK1 hK2 hkl CM S6 hrt hrs
      clear q
      obtain ⟨A, hA⟩ : ∃ A : Option Addr, A = none := ⟨_, rfl⟩
      obtain ⟨n, hn⟩ : ∃ A : Nat, A = 0 := ⟨_, rfl⟩
      obtain ⟨cap, hcap⟩ : ∃ A : Nat, A = 0 := ⟨_, rfl⟩
      obtain ⟨L, hL⟩ : ∃ A : List Ow.Tg, A = [] := ⟨_, rfl⟩
      have S1 := Lib.hid (show RmAt w (w6.setCell ⟨b, 1, none⟩ (.int .i64 (K2 : Nat))) b s ot ⟨0, nm, of, [], [], 0, false, [], 0⟩ (.slice A n cap) L by rw [hA, hn, hcap, hL, hot]; have := S7.out; exact ⟨this.C.to rfl rfl, this.R, this.Z, this.G, this.T, this.l1⟩)
      have HQ := Lib.hid (show Q = ot.bind fun tg r2 => (Ow.lit [32] r2).bind fun _ r3 => (Ow.num false r3).bind fun tx r4 =>
        if r4.head? = some 32 then (Ow.num false r4.tail).bind fun tm r5 => .ok ⟨0, nm, of, tg, tx, s.length - r3.length, true, tm, s.length - r4.tail.length⟩ r5
        else .ok ⟨0, nm, of, tg, tx, s.length - r3.length, false, [], 0⟩ r4 by rw [hot]; exact HQ1.out)
      have hot : ∀ tg r, ot = .ok tg r → L = tg := fun tg r e => (by rw [hot] at e; injection e with e1 e2; rw [hL, ← e1])
      clear hA hn hcap hL S7 HQ1
      go_upto_region 8 with fail
      clear c0 c1 c2 cf cl hw
      clear HTags
      go_wp2_with fail
      refine (scl_calls _ [32] b s _ S1.out.C (by decide) (by unfold maxLen; omega)).mono ?_; rintro e w5 ⟨rfl, g5, C5⟩
      obtain ⟨o2, ho2⟩ : ∃ o, o = ot.bind fun _ r => Ow.lit [32] r := ⟨_, rfl⟩
      rw [← ho2] at C5
      have S5 := Lib.hid (S1.out.call g5 C5)
      obtain ⟨at_, hat⟩ : ∃ k, k = s.length - o2.rest.length := ⟨_, rfl⟩
      obtain ⟨c0, c1, c2, cf, cl⟩ := S5.out.C.num
      rw [← hat] at c1
      obtain ⟨z0, z1, z2, z3, z4, z5, z6, z7, z8, z9, zf, zl⟩ := S5.out.R
      have HAT := Lib.hid hat
      have S6 := Lib.hid (S5.out.sto (S5.out.R.set6 at_))
      clear hat g5 C5 S1 S5
      go_wp2_with fail
      clear z0 z1 z2 z3 z4 z5 z6 z7 z8 z9 zf zl c0 c1 c2 cf cl
      refine (number_calls o2 false b s _ S6.out.C (by unfold maxLen; omega)).mono ?_; rintro e w7 ⟨⟨x7, rfl, hx7⟩, g7, C7⟩
      obtain ⟨tx, rfl⟩ := text_is x7
      obtain ⟨o3, ho3⟩ : ∃ o, o = o2.bind fun _ r => Ow.num false r := ⟨_, rfl⟩
      rw [← ho3] at C7 hx7
      have hn7 : ∀ v r, o3 = .ok v r → tx = v := fun v r e => str_inj (hx7 v r e)
      have S7 := Lib.hid (S6.out.call g7 C7)
      obtain ⟨z0, z1, z2, z3, z4, z5, z6, z7, z8, z9, zf, zl⟩ := S7.out.R
      have S8 := Lib.hid (S7.out.sto (S7.out.R.set5 tx))
      clear g7 C7 S6 S7 hx7
      go_wp2_with fail
      clear z0 z1 z2 z3 z4 z5 z6 z7 z8 z9 zf zl
      refine (scnext_calls o3 b s _ S8.out.C (by unfold maxLen; omega)).mono ?_; rintro e w9 ⟨rfl, b9⟩
      have S9 := Lib.hid (S8.out.call (sc_below b9 _) (S8.out.C.below b9))
      clear b9 S8
      cases hP3 : o3 with
      | fell r3 =>
        rw [hP3] at S9
        have hr := Lib.hid (show Q = .fell r3 by
          have h3 := ho3; rw [hP3] at h3
          rw [HQ.out]
          cases ho : ot with
          | fell r =>
            rw [ho] at ho2; rw [ho2] at h3
            have e : r3 = r := by injection h3
            rw [e]; rfl
          | ok tg r =>
            rw [ho] at ho2
            have ho2 : o2 = Ow.lit [32] r := ho2
            show (Ow.lit [32] r).bind _ = _
            rw [← ho2]
            cases h2 : o2 with
            | fell r =>
              rw [h2] at h3
              have e : r3 = r := by injection h3
              rw [e]; rfl
            | ok u r =>
              rw [h2] at h3
              have h3 : Ow.Out.fell r3 = Ow.num false r := h3
              show (Ow.num false r).bind _ = _; rw [← h3]; rfl)
        obtain ⟨c0, c1, c2, cf, cl⟩ := S9.out.C.num
        obtain ⟨xr, hxr⟩ : ∃ xr : Ow.Rw, xr = ⟨0, nm, of, [], tx, at_, false, [], 0⟩ := ⟨_, rfl⟩
        have SX := Lib.hid (show RmAt w w9 b s (Ow.Out.fell r3 : Ow.Out (List UInt8)) xr (.slice A n cap) L by rw [hxr]; have := S9.out; exact ⟨this.C, by obtain ⟨z0, z1, z2, z3, z4, z5, z6, z7, z8, z9, zf, zl⟩ := this.R; exact ⟨z0, z1, z2, z3, z4, z5, z6, z7, z8, z9, zf, zl⟩, this.Z, this.G, this.T, this.l1⟩)
        clear S9 ho2 ho3 hP3 HQ hn7 hxr HAT
        generalize Ow.hd (Ow.Out.fell r3 : Ow.Out (List UInt8)).rest = HD
        obtain ⟨hb, hhb⟩ : ∃ hb, (HD == (32 : Int)) = hb := ⟨_, rfl⟩
        cases hb
        · have FZ := Lib.hid (show ScO ((((((((((w9.setCell ⟨w.heap.size, 0, none⟩ (.int .i64 xr.k)).setCell ⟨w.heap.size, 1, none⟩ (.string (str xr.n))).setCell ⟨w.heap.size, 2, none⟩ (.int .i64 (xr.off : Nat))).setCell ⟨w.heap.size, 3, none⟩ (.slice A n cap)).setCell ⟨w.heap.size, 4, none⟩ (.slice none 0 0)).setCell ⟨w.heap.size, 5, none⟩ (.string (str xr.text))).setCell ⟨w.heap.size, 6, none⟩ (.int .i64 (xr.at_ : Nat))).setCell ⟨w.heap.size, 7, none⟩ (.bool xr.td)).setCell ⟨w.heap.size, 8, none⟩ (.string (str xr.tm))).setCell ⟨w.heap.size, 9, none⟩ (.int .i64 (xr.wh : Nat))) b s _ ∧ RwAt ((((((((((w9.setCell ⟨w.heap.size, 0, none⟩ (.int .i64 xr.k)).setCell ⟨w.heap.size, 1, none⟩ (.string (str xr.n))).setCell ⟨w.heap.size, 2, none⟩ (.int .i64 (xr.off : Nat))).setCell ⟨w.heap.size, 3, none⟩ (.slice A n cap)).setCell ⟨w.heap.size, 4, none⟩ (.slice none 0 0)).setCell ⟨w.heap.size, 5, none⟩ (.string (str xr.text))).setCell ⟨w.heap.size, 6, none⟩ (.int .i64 (xr.at_ : Nat))).setCell ⟨w.heap.size, 7, none⟩ (.bool xr.td)).setCell ⟨w.heap.size, 8, none⟩ (.string (str xr.tm))).setCell ⟨w.heap.size, 9, none⟩ (.int .i64 (xr.wh : Nat))) w.heap.size (xr, .slice A n cap) ∧ w.grownBy ((((((((((w9.setCell ⟨w.heap.size, 0, none⟩ (.int .i64 xr.k)).setCell ⟨w.heap.size, 1, none⟩ (.string (str xr.n))).setCell ⟨w.heap.size, 2, none⟩ (.int .i64 (xr.off : Nat))).setCell ⟨w.heap.size, 3, none⟩ (.slice A n cap)).setCell ⟨w.heap.size, 4, none⟩ (.slice none 0 0)).setCell ⟨w.heap.size, 5, none⟩ (.string (str xr.text))).setCell ⟨w.heap.size, 6, none⟩ (.int .i64 (xr.at_ : Nat))).setCell ⟨w.heap.size, 7, none⟩ (.bool xr.td)).setCell ⟨w.heap.size, 8, none⟩ (.string (str xr.tm))).setCell ⟨w.heap.size, 9, none⟩ (.int .i64 (xr.wh : Nat))) (some b) ∧ TgOwn ((((((((((w9.setCell ⟨w.heap.size, 0, none⟩ (.int .i64 xr.k)).setCell ⟨w.heap.size, 1, none⟩ (.string (str xr.n))).setCell ⟨w.heap.size, 2, none⟩ (.int .i64 (xr.off : Nat))).setCell ⟨w.heap.size, 3, none⟩ (.slice A n cap)).setCell ⟨w.heap.size, 4, none⟩ (.slice none 0 0)).setCell ⟨w.heap.size, 5, none⟩ (.string (str xr.text))).setCell ⟨w.heap.size, 6, none⟩ (.int .i64 (xr.at_ : Nat))).setCell ⟨w.heap.size, 7, none⟩ (.bool xr.td)).setCell ⟨w.heap.size, 8, none⟩ (.string (str xr.tm))).setCell ⟨w.heap.size, 9, none⟩ (.int .i64 (xr.wh : Nat))) w.heap.size (.slice A n cap) L from SX.out.fin)
          obtain ⟨z0, z1, z2, z3, z4, z5, z6, z7, z8, z9, zf, zl⟩ := SX.out.R
          obtain ⟨y0, y1, y2, y3, y4, y5, y6, y7, y8, y9, yf, yl⟩ := SX.out.Z
          dsimp only at z0 z1 z2 z3 z4 z5 z6 z7 z8 z9 y0 y1 y2 y3 y4 y5 y6 y7 y8 y9
          clear SX
          go_wp2
          clear z0 z1 z2 z3 z4 z5 z6 z7 z8 z9 zf zl y0 y1 y2 y3 y4 y5 y6 y7 y8 y9 yf yl
          generalize hWZ : ((((((((((w9.setCell ⟨w.heap.size, 0, none⟩ (.int .i64 xr.k)).setCell ⟨w.heap.size, 1, none⟩ (.string (str xr.n))).setCell ⟨w.heap.size, 2, none⟩ (.int .i64 (xr.off : Nat))).setCell ⟨w.heap.size, 3, none⟩ (.slice A n cap)).setCell ⟨w.heap.size, 4, none⟩ (.slice none 0 0)).setCell ⟨w.heap.size, 5, none⟩ (.string (str xr.text))).setCell ⟨w.heap.size, 6, none⟩ (.int .i64 (xr.at_ : Nat))).setCell ⟨w.heap.size, 7, none⟩ (.bool xr.td)).setCell ⟨w.heap.size, 8, none⟩ (.string (str xr.tm))).setCell ⟨w.heap.size, 9, none⟩ (.int .i64 (xr.wh : Nat))) = WZ at *
          clear hWZ
          obtain ⟨FC, FR, FG, FT⟩ := FZ.out
          obtain ⟨y0, y1, y2, y3, y4, y5, y6, y7, y8, y9, yf, yl⟩ := FR
          refine bodyPost_ret (v := rwv (xr, .slice A n cap)) (by simp [results, Tryd.results24, go_sem, y0, y1, y2, y3, y4, y5, y6, y7, y8, y9, rwv]) rfl ?_
          exact ⟨xr, A, n, cap, L, rfl, FC.to (by rw [hr.out]; rfl) (by rw [hr.out]; rfl), FG, FT, fun R r e => (by rw [hr.out] at e; cases e)⟩
        · have FZ := Lib.hid (show ScO ((((((((((w9.setCell ⟨w.heap.size, 0, none⟩ (.int .i64 xr.k)).setCell ⟨w.heap.size, 1, none⟩ (.string (str xr.n))).setCell ⟨w.heap.size, 2, none⟩ (.int .i64 (xr.off : Nat))).setCell ⟨w.heap.size, 3, none⟩ (.slice A n cap)).setCell ⟨w.heap.size, 4, none⟩ (.slice none 0 0)).setCell ⟨w.heap.size, 5, none⟩ (.string (str xr.text))).setCell ⟨w.heap.size, 6, none⟩ (.int .i64 (xr.at_ : Nat))).setCell ⟨w.heap.size, 7, none⟩ (.bool xr.td)).setCell ⟨w.heap.size, 8, none⟩ (.string (str xr.tm))).setCell ⟨w.heap.size, 9, none⟩ (.int .i64 (xr.wh : Nat))) b s _ ∧ RwAt ((((((((((w9.setCell ⟨w.heap.size, 0, none⟩ (.int .i64 xr.k)).setCell ⟨w.heap.size, 1, none⟩ (.string (str xr.n))).setCell ⟨w.heap.size, 2, none⟩ (.int .i64 (xr.off : Nat))).setCell ⟨w.heap.size, 3, none⟩ (.slice A n cap)).setCell ⟨w.heap.size, 4, none⟩ (.slice none 0 0)).setCell ⟨w.heap.size, 5, none⟩ (.string (str xr.text))).setCell ⟨w.heap.size, 6, none⟩ (.int .i64 (xr.at_ : Nat))).setCell ⟨w.heap.size, 7, none⟩ (.bool xr.td)).setCell ⟨w.heap.size, 8, none⟩ (.string (str xr.tm))).setCell ⟨w.heap.size, 9, none⟩ (.int .i64 (xr.wh : Nat))) w.heap.size (xr, .slice A n cap) ∧ w.grownBy ((((((((((w9.setCell ⟨w.heap.size, 0, none⟩ (.int .i64 xr.k)).setCell ⟨w.heap.size, 1, none⟩ (.string (str xr.n))).setCell ⟨w.heap.size, 2, none⟩ (.int .i64 (xr.off : Nat))).setCell ⟨w.heap.size, 3, none⟩ (.slice A n cap)).setCell ⟨w.heap.size, 4, none⟩ (.slice none 0 0)).setCell ⟨w.heap.size, 5, none⟩ (.string (str xr.text))).setCell ⟨w.heap.size, 6, none⟩ (.int .i64 (xr.at_ : Nat))).setCell ⟨w.heap.size, 7, none⟩ (.bool xr.td)).setCell ⟨w.heap.size, 8, none⟩ (.string (str xr.tm))).setCell ⟨w.heap.size, 9, none⟩ (.int .i64 (xr.wh : Nat))) (some b) ∧ TgOwn ((((((((((w9.setCell ⟨w.heap.size, 0, none⟩ (.int .i64 xr.k)).setCell ⟨w.heap.size, 1, none⟩ (.string (str xr.n))).setCell ⟨w.heap.size, 2, none⟩ (.int .i64 (xr.off : Nat))).setCell ⟨w.heap.size, 3, none⟩ (.slice A n cap)).setCell ⟨w.heap.size, 4, none⟩ (.slice none 0 0)).setCell ⟨w.heap.size, 5, none⟩ (.string (str xr.text))).setCell ⟨w.heap.size, 6, none⟩ (.int .i64 (xr.at_ : Nat))).setCell ⟨w.heap.size, 7, none⟩ (.bool xr.td)).setCell ⟨w.heap.size, 8, none⟩ (.string (str xr.tm))).setCell ⟨w.heap.size, 9, none⟩ (.int .i64 (xr.wh : Nat))) w.heap.size (.slice A n cap) L from SX.out.fin)
          obtain ⟨z0, z1, z2, z3, z4, z5, z6, z7, z8, z9, zf, zl⟩ := SX.out.R
          obtain ⟨y0, y1, y2, y3, y4, y5, y6, y7, y8, y9, yf, yl⟩ := SX.out.Z
          dsimp only at z0 z1 z2 z3 z4 z5 z6 z7 z8 z9 y0 y1 y2 y3 y4 y5 y6 y7 y8 y9
          clear SX
          go_wp2
          clear z0 z1 z2 z3 z4 z5 z6 z7 z8 z9 zf zl y0 y1 y2 y3 y4 y5 y6 y7 y8 y9 yf yl
          generalize hWZ : ((((((((((w9.setCell ⟨w.heap.size, 0, none⟩ (.int .i64 xr.k)).setCell ⟨w.heap.size, 1, none⟩ (.string (str xr.n))).setCell ⟨w.heap.size, 2, none⟩ (.int .i64 (xr.off : Nat))).setCell ⟨w.heap.size, 3, none⟩ (.slice A n cap)).setCell ⟨w.heap.size, 4, none⟩ (.slice none 0 0)).setCell ⟨w.heap.size, 5, none⟩ (.string (str xr.text))).setCell ⟨w.heap.size, 6, none⟩ (.int .i64 (xr.at_ : Nat))).setCell ⟨w.heap.size, 7, none⟩ (.bool xr.td)).setCell ⟨w.heap.size, 8, none⟩ (.string (str xr.tm))).setCell ⟨w.heap.size, 9, none⟩ (.int .i64 (xr.wh : Nat))) = WZ at *
          clear hWZ
          obtain ⟨FC, FR, FG, FT⟩ := FZ.out
          obtain ⟨y0, y1, y2, y3, y4, y5, y6, y7, y8, y9, yf, yl⟩ := FR
          refine bodyPost_ret (v := rwv (xr, .slice A n cap)) (by simp [results, Tryd.results24, go_sem, y0, y1, y2, y3, y4, y5, y6, y7, y8, y9, rwv]) rfl ?_
          exact ⟨xr, A, n, cap, L, rfl, FC.to (by rw [hr.out]; rfl) (by rw [hr.out]; rfl), FG, FT, fun R r e => (by rw [hr.out] at e; cases e)⟩
      | ok tx2 r4 =>
        rw [hP3] at S9
        obtain rfl := hn7 _ _ hP3
        obtain ⟨tg, r2, u, r3, hot1, ho21⟩ : ∃ tg r2 u r3, ot = .ok tg r2 ∧ o2 = .ok u r3 := by
          cases ho : ot with
          | fell r => rw [ho] at ho2; rw [ho2] at ho3; rw [ho3] at hP3; cases hP3
          | ok tg r2 =>
            cases h2 : o2 with
            | fell r => rw [h2] at ho3; rw [ho3] at hP3; cases hP3
            | ok u r3 => exact ⟨tg, r2, u, r3, rfl, rfl⟩
        have hl32 : Ow.lit [32] r2 = .ok u r3 := by rw [← ho21, ho2, hot1]; rfl
        have hnum : Ow.num false r3 = .ok tx r4 := by rw [← hP3, ho3, ho21]; rfl
        obtain rfl := hot _ _ hot1
        have hat : at_ = s.length - r3.length := by rw [HAT.out, ho21]; rfl
        have HQ2 := Lib.hid (show Q = if r4.head? = some 32 then (Ow.num false r4.tail).bind fun tm r5 => .ok ⟨0, nm, of, L, tx, at_, true, tm, s.length - r4.tail.length⟩ r5 else .ok ⟨0, nm, of, L, tx, at_, false, [], 0⟩ r4 by
          rw [HQ.out, hot1]; show (Ow.lit [32] r2).bind _ = _; rw [hl32]; show (Ow.num false r3).bind _ = _; rw [hnum, hat]; rfl)
        have hrs : r4 <:+ s := S9.out.C.suf
        obtain ⟨c0, c1, c2, cf, cl⟩ := S9.out.C.num
        have hdm : (Ow.hd r4 == (32 : Int)) = decide (r4.head? = some 32) := Ow.hd_is (l := r4) (c := 32) (by decide)
        clear ho2 ho3 hP3 HQ hn7 HAT hot1 ho21 hl32 hnum hat
        rw [show (Ow.Out.ok tx r4).rest = r4 from rfl]
        rw [show s.length - (Ow.Out.ok tx r4).rest.length = s.length - r4.length from rfl] at c1
        by_cases q : r4.head? = some 32
        rotate_left
        · rw [decide_eq_false q] at hdm
          rw [if_neg q] at HQ2
          generalize Ow.hd r4 = HD at *
          obtain ⟨xr, hxr⟩ : ∃ xr : Ow.Rw, xr = ⟨0, nm, of, L, tx, at_, false, [], 0⟩ := ⟨_, rfl⟩
          have SX := Lib.hid (show RmAt w w9 b s (Ow.Out.ok tx r4) xr (.slice A n cap) L by rw [hxr]; have := S9.out; exact ⟨this.C, by obtain ⟨z0, z1, z2, z3, z4, z5, z6, z7, z8, z9, zf, zl⟩ := this.R; exact ⟨z0, z1, z2, z3, z4, z5, z6, z7, z8, z9, zf, zl⟩, this.Z, this.G, this.T, this.l1⟩)
          have hr := Lib.hid (show Q = .ok xr r4 ∧ L = xr.tags by rw [HQ2.out, hxr]; exact ⟨rfl, rfl⟩)
          clear S9 HQ2 hxr q
          have FZ := Lib.hid (show ScO ((((((((((w9.setCell ⟨w.heap.size, 0, none⟩ (.int .i64 xr.k)).setCell ⟨w.heap.size, 1, none⟩ (.string (str xr.n))).setCell ⟨w.heap.size, 2, none⟩ (.int .i64 (xr.off : Nat))).setCell ⟨w.heap.size, 3, none⟩ (.slice A n cap)).setCell ⟨w.heap.size, 4, none⟩ (.slice none 0 0)).setCell ⟨w.heap.size, 5, none⟩ (.string (str xr.text))).setCell ⟨w.heap.size, 6, none⟩ (.int .i64 (xr.at_ : Nat))).setCell ⟨w.heap.size, 7, none⟩ (.bool xr.td)).setCell ⟨w.heap.size, 8, none⟩ (.string (str xr.tm))).setCell ⟨w.heap.size, 9, none⟩ (.int .i64 (xr.wh : Nat))) b s _ ∧ RwAt ((((((((((w9.setCell ⟨w.heap.size, 0, none⟩ (.int .i64 xr.k)).setCell ⟨w.heap.size, 1, none⟩ (.string (str xr.n))).setCell ⟨w.heap.size, 2, none⟩ (.int .i64 (xr.off : Nat))).setCell ⟨w.heap.size, 3, none⟩ (.slice A n cap)).setCell ⟨w.heap.size, 4, none⟩ (.slice none 0 0)).setCell ⟨w.heap.size, 5, none⟩ (.string (str xr.text))).setCell ⟨w.heap.size, 6, none⟩ (.int .i64 (xr.at_ : Nat))).setCell ⟨w.heap.size, 7, none⟩ (.bool xr.td)).setCell ⟨w.heap.size, 8, none⟩ (.string (str xr.tm))).setCell ⟨w.heap.size, 9, none⟩ (.int .i64 (xr.wh : Nat))) w.heap.size (xr, .slice A n cap) ∧ w.grownBy ((((((((((w9.setCell ⟨w.heap.size, 0, none⟩ (.int .i64 xr.k)).setCell ⟨w.heap.size, 1, none⟩ (.string (str xr.n))).setCell ⟨w.heap.size, 2, none⟩ (.int .i64 (xr.off : Nat))).setCell ⟨w.heap.size, 3, none⟩ (.slice A n cap)).setCell ⟨w.heap.size, 4, none⟩ (.slice none 0 0)).setCell ⟨w.heap.size, 5, none⟩ (.string (str xr.text))).setCell ⟨w.heap.size, 6, none⟩ (.int .i64 (xr.at_ : Nat))).setCell ⟨w.heap.size, 7, none⟩ (.bool xr.td)).setCell ⟨w.heap.size, 8, none⟩ (.string (str xr.tm))).setCell ⟨w.heap.size, 9, none⟩ (.int .i64 (xr.wh : Nat))) (some b) ∧ TgOwn ((((((((((w9.setCell ⟨w.heap.size, 0, none⟩ (.int .i64 xr.k)).setCell ⟨w.heap.size, 1, none⟩ (.string (str xr.n))).setCell ⟨w.heap.size, 2, none⟩ (.int .i64 (xr.off : Nat))).setCell ⟨w.heap.size, 3, none⟩ (.slice A n cap)).setCell ⟨w.heap.size, 4, none⟩ (.slice none 0 0)).setCell ⟨w.heap.size, 5, none⟩ (.string (str xr.text))).setCell ⟨w.heap.size, 6, none⟩ (.int .i64 (xr.at_ : Nat))).setCell ⟨w.heap.size, 7, none⟩ (.bool xr.td)).setCell ⟨w.heap.size, 8, none⟩ (.string (str xr.tm))).setCell ⟨w.heap.size, 9, none⟩ (.int .i64 (xr.wh : Nat))) w.heap.size (.slice A n cap) L from SX.out.fin)
          obtain ⟨z0, z1, z2, z3, z4, z5, z6, z7, z8, z9, zf, zl⟩ := SX.out.R
          obtain ⟨y0, y1, y2, y3, y4, y5, y6, y7, y8, y9, yf, yl⟩ := SX.out.Z
          dsimp only at z0 z1 z2 z3 z4 z5 z6 z7 z8 z9 y0 y1 y2 y3 y4 y5 y6 y7 y8 y9
          clear SX
          go_wp2
          clear z0 z1 z2 z3 z4 z5 z6 z7 z8 z9 zf zl y0 y1 y2 y3 y4 y5 y6 y7 y8 y9 yf yl
          generalize hWZ : ((((((((((w9.setCell ⟨w.heap.size, 0, none⟩ (.int .i64 xr.k)).setCell ⟨w.heap.size, 1, none⟩ (.string (str xr.n))).setCell ⟨w.heap.size, 2, none⟩ (.int .i64 (xr.off : Nat))).setCell ⟨w.heap.size, 3, none⟩ (.slice A n cap)).setCell ⟨w.heap.size, 4, none⟩ (.slice none 0 0)).setCell ⟨w.heap.size, 5, none⟩ (.string (str xr.text))).setCell ⟨w.heap.size, 6, none⟩ (.int .i64 (xr.at_ : Nat))).setCell ⟨w.heap.size, 7, none⟩ (.bool xr.td)).setCell ⟨w.heap.size, 8, none⟩ (.string (str xr.tm))).setCell ⟨w.heap.size, 9, none⟩ (.int .i64 (xr.wh : Nat))) = WZ at *
          clear hWZ
          obtain ⟨FC, FR, FG, FT⟩ := FZ.out
          obtain ⟨y0, y1, y2, y3, y4, y5, y6, y7, y8, y9, yf, yl⟩ := FR
          refine bodyPost_ret (v := rwv (xr, .slice A n cap)) (by simp [results, Tryd.results24, go_sem, y0, y1, y2, y3, y4, y5, y6, y7, y8, y9, rwv]) rfl ?_
          exact ⟨xr, A, n, cap, L, rfl, FC.to (by rw [hr.out.1]; rfl) (by rw [hr.out.1]; rfl), FG, FT, fun R r e => (by rw [hr.out.1] at e; injection e with e1 e2; exact ⟨e1, by rw [← e1]; exact hr.out.2⟩)⟩
        · rw [decide_eq_true q] at hdm
          rw [if_pos q] at HQ2
          have hrt := Ow.head_some q
          have hkl : s.length - r4.length + 1 = s.length - r4.tail.length := by
            have h1 := hrs.length_le
            have h2 := congrArg List.length hrt
            simp only [List.length_cons] at h2
            omega
          generalize Ow.hd r4 = HD at *
          obtain ⟨K1, hK1⟩ : ∃ k, k = s.length - r4.length := ⟨_, rfl⟩
          obtain ⟨K2, hK2⟩ : ∃ k, k = s.length - r4.tail.length := ⟨_, rfl⟩
          rw [← hK1] at c1 hkl
          rw [← hK2] at HQ2 hkl
          have hw : IntKind.i64.wrap ((K1 : Int) + 1) = (K2 : Int) := by
            rw [show (K1 : Int) + 1 = (K2 : Int) by omega]; exact IntWalk.i64_in _ (by omega)
          have CM : ScO (w9.setCell ⟨b, 1, none⟩ (.int .i64 (K2 : Nat))) b s (Ow.Out.ok () r4.tail) := ⟨(List.tail_suffix r4).trans hrs, by show ScA _ b s (s.length - r4.tail.length) false; rw [← hK2]; exact S9.out.C.num.move K2⟩
          have SA := Lib.hid (S9.out.call (sc_set (sc_below (Below.refl _ _) _)) CM)
          obtain ⟨z0, z1, z2, z3, z4, z5, z6, z7, z8, z9, zf, zl⟩ := SA.out.R
          have SB := Lib.hid (SA.out.sto (SA.out.R.set7 true))
          have SC := Lib.hid (SB.out.sto (SB.out.R.set9 K2))
          clear hK1 hK2 hkl CM S9 SA SB hrt q
          obtain ⟨z0, z1, z2, z3, z4, z5, z6, z7, z8, z9, zf, zl⟩ := SC.out.R
          go_wp2_with fail
          refine (number_calls (Ow.Out.ok () r4.tail) false b s _ SC.out.C (by unfold maxLen; omega)).mono ?_; rintro e wB ⟨⟨xB, rfl, hxB⟩, gB, CB⟩
          clear z0 z1 z2 z3 z4 z5 z6 z7 z8 z9 zf zl c0 c1 c2 cf cl
          obtain ⟨tm, rfl⟩ := text_is xB
          have CB : ScO wB b s (Ow.num false r4.tail) := CB
          have hxB : ∀ v r, Ow.num false r4.tail = .ok v r → tm = v := fun v r e => str_inj (hxB v r e)
          have SD := Lib.hid (SC.out.call gB CB)
          obtain ⟨z0, z1, z2, z3, z4, z5, z6, z7, z8, z9, zf, zl⟩ := SD.out.R
          have SE := Lib.hid (SD.out.sto (SD.out.R.set8 tm))
          obtain ⟨xr, hxr⟩ : ∃ xr : Ow.Rw, xr = ⟨0, nm, of, L, tx, at_, true, tm, K2⟩ := ⟨_, rfl⟩
          have SX := Lib.hid (show RmAt w (wB.setCell ⟨w.heap.size + 1, 8, none⟩ (.string (str tm))) b s (Ow.num false r4.tail) xr (.slice A n cap) L by rw [hxr]; have := SE.out; exact ⟨this.C, by obtain ⟨z0, z1, z2, z3, z4, z5, z6, z7, z8, z9, zf, zl⟩ := this.R; exact ⟨z0, z1, z2, z3, z4, z5, z6, z7, z8, z9, zf, zl⟩, this.Z, this.G, this.T, this.l1⟩)
          have hr := Lib.hid (show Q.rest = (Ow.num false r4.tail).rest ∧ Ow.fellB Q = Ow.fellB (Ow.num false r4.tail) ∧ ∀ R r, Q = .ok R r → xr = R ∧ L = R.tags by
            rw [HQ2.out, hxr]
            cases hq : Ow.num false r4.tail with
            | fell r => exact ⟨rfl, rfl, fun R r e => (by cases e)⟩
            | ok v r =>
              obtain rfl := hxB _ _ hq
              exact ⟨rfl, rfl, fun R r e => (by injection e with e1 e2; exact ⟨e1, by rw [← e1]⟩)⟩)
          clear SE SC SD HQ2 hxr gB CB hxB
          have FZ := Lib.hid (show ScO (((((((((((wB.setCell ⟨w.heap.size + 1, 8, none⟩ (.string (str tm))).setCell ⟨w.heap.size, 0, none⟩ (.int .i64 xr.k)).setCell ⟨w.heap.size, 1, none⟩ (.string (str xr.n))).setCell ⟨w.heap.size, 2, none⟩ (.int .i64 (xr.off : Nat))).setCell ⟨w.heap.size, 3, none⟩ (.slice A n cap)).setCell ⟨w.heap.size, 4, none⟩ (.slice none 0 0)).setCell ⟨w.heap.size, 5, none⟩ (.string (str xr.text))).setCell ⟨w.heap.size, 6, none⟩ (.int .i64 (xr.at_ : Nat))).setCell ⟨w.heap.size, 7, none⟩ (.bool xr.td)).setCell ⟨w.heap.size, 8, none⟩ (.string (str xr.tm))).setCell ⟨w.heap.size, 9, none⟩ (.int .i64 (xr.wh : Nat))) b s _ ∧ RwAt (((((((((((wB.setCell ⟨w.heap.size + 1, 8, none⟩ (.string (str tm))).setCell ⟨w.heap.size, 0, none⟩ (.int .i64 xr.k)).setCell ⟨w.heap.size, 1, none⟩ (.string (str xr.n))).setCell ⟨w.heap.size, 2, none⟩ (.int .i64 (xr.off : Nat))).setCell ⟨w.heap.size, 3, none⟩ (.slice A n cap)).setCell ⟨w.heap.size, 4, none⟩ (.slice none 0 0)).setCell ⟨w.heap.size, 5, none⟩ (.string (str xr.text))).setCell ⟨w.heap.size, 6, none⟩ (.int .i64 (xr.at_ : Nat))).setCell ⟨w.heap.size, 7, none⟩ (.bool xr.td)).setCell ⟨w.heap.size, 8, none⟩ (.string (str xr.tm))).setCell ⟨w.heap.size, 9, none⟩ (.int .i64 (xr.wh : Nat))) w.heap.size (xr, .slice A n cap) ∧ w.grownBy (((((((((((wB.setCell ⟨w.heap.size + 1, 8, none⟩ (.string (str tm))).setCell ⟨w.heap.size, 0, none⟩ (.int .i64 xr.k)).setCell ⟨w.heap.size, 1, none⟩ (.string (str xr.n))).setCell ⟨w.heap.size, 2, none⟩ (.int .i64 (xr.off : Nat))).setCell ⟨w.heap.size, 3, none⟩ (.slice A n cap)).setCell ⟨w.heap.size, 4, none⟩ (.slice none 0 0)).setCell ⟨w.heap.size, 5, none⟩ (.string (str xr.text))).setCell ⟨w.heap.size, 6, none⟩ (.int .i64 (xr.at_ : Nat))).setCell ⟨w.heap.size, 7, none⟩ (.bool xr.td)).setCell ⟨w.heap.size, 8, none⟩ (.string (str xr.tm))).setCell ⟨w.heap.size, 9, none⟩ (.int .i64 (xr.wh : Nat))) (some b) ∧ TgOwn (((((((((((wB.setCell ⟨w.heap.size + 1, 8, none⟩ (.string (str tm))).setCell ⟨w.heap.size, 0, none⟩ (.int .i64 xr.k)).setCell ⟨w.heap.size, 1, none⟩ (.string (str xr.n))).setCell ⟨w.heap.size, 2, none⟩ (.int .i64 (xr.off : Nat))).setCell ⟨w.heap.size, 3, none⟩ (.slice A n cap)).setCell ⟨w.heap.size, 4, none⟩ (.slice none 0 0)).setCell ⟨w.heap.size, 5, none⟩ (.string (str xr.text))).setCell ⟨w.heap.size, 6, none⟩ (.int .i64 (xr.at_ : Nat))).setCell ⟨w.heap.size, 7, none⟩ (.bool xr.td)).setCell ⟨w.heap.size, 8, none⟩ (.string (str xr.tm))).setCell ⟨w.heap.size, 9, none⟩ (.int .i64 (xr.wh : Nat))) w.heap.size (.slice A n cap) L from SX.out.fin)
          obtain ⟨z0, z1, z2, z3, z4, z5, z6, z7, z8, z9, zf, zl⟩ := SX.out.R
          obtain ⟨y0, y1, y2, y3, y4, y5, y6, y7, y8, y9, yf, yl⟩ := SX.out.Z
          dsimp only at z0 z1 z2 z3 z4 z5 z6 z7 z8 z9 y0 y1 y2 y3 y4 y5 y6 y7 y8 y9
          clear SX
          go_wp2
          clear z0 z1 z2 z3 z4 z5 z6 z7 z8 z9 zf zl y0 y1 y2 y3 y4 y5 y6 y7 y8 y9 yf yl
          generalize hWZ : (((((((((((wB.setCell ⟨w.heap.size + 1, 8, none⟩ (.string (str tm))).setCell ⟨w.heap.size, 0, none⟩ (.int .i64 xr.k)).setCell ⟨w.heap.size, 1, none⟩ (.string (str xr.n))).setCell ⟨w.heap.size, 2, none⟩ (.int .i64 (xr.off : Nat))).setCell ⟨w.heap.size, 3, none⟩ (.slice A n cap)).setCell ⟨w.heap.size, 4, none⟩ (.slice none 0 0)).setCell ⟨w.heap.size, 5, none⟩ (.string (str xr.text))).setCell ⟨w.heap.size, 6, none⟩ (.int .i64 (xr.at_ : Nat))).setCell ⟨w.heap.size, 7, none⟩ (.bool xr.td)).setCell ⟨w.heap.size, 8, none⟩ (.string (str xr.tm))).setCell ⟨w.heap.size, 9, none⟩ (.int .i64 (xr.wh : Nat))) = WZ at *
          clear hWZ
          obtain ⟨FC, FR, FG, FT⟩ := FZ.out
          obtain ⟨y0, y1, y2, y3, y4, y5, y6, y7, y8, y9, yf, yl⟩ := FR
          refine bodyPost_ret (v := rwv (xr, .slice A n cap)) (by simp [results, Tryd.results24, go_sem, y0, y1, y2, y3, y4, y5, y6, y7, y8, y9, rwv]) rfl ?_
          exact ⟨xr, A, n, cap, L, rfl, FC.to hr.out.1 hr.out.2.1, FG, FT, hr.out.2.2⟩
    · rw [decide_eq_false q] at hdm2
      rw [if_neg q] at HQ1
      generalize Ow.hd r1t = HD2 at *
      clear q
      go_wp2_with fail
      refine (HTags.out w6 r1t _ S6.out.C S6.out.R).mono ?_; rintro e w7 ⟨rfl, A, n, cap, L, cS, cR, cG, cT, hML⟩
      have S1 := Lib.hid (S6.out.tags cG cS cR cT)
      obtain ⟨ot, hot0⟩ : ∃ o, o = Ow.tags s.length r1t := ⟨_, rfl⟩
      rw [← hot0] at S1 HQ1 hML
      have HQ := HQ1
      have hot : ∀ tg r, ot = .ok tg r → L = tg := fun tg r e => (hML tg r e).symm
      clear cS cR cG cT hML hot0 HQ1 S6
      go_upto_region 8 with fail
      clear HTags
      go_wp2_with fail
      refine (scl_calls _ [32] b s _ S1.out.C (by decide) (by unfold maxLen; omega)).mono ?_; rintro e w5 ⟨rfl, g5, C5⟩
      obtain ⟨o2, ho2⟩ : ∃ o, o = ot.bind fun _ r => Ow.lit [32] r := ⟨_, rfl⟩
      rw [← ho2] at C5
      have S5 := Lib.hid (S1.out.call g5 C5)
      obtain ⟨at_, hat⟩ : ∃ k, k = s.length - o2.rest.length := ⟨_, rfl⟩
      obtain ⟨c0, c1, c2, cf, cl⟩ := S5.out.C.num
      rw [← hat] at c1
      obtain ⟨z0, z1, z2, z3, z4, z5, z6, z7, z8, z9, zf, zl⟩ := S5.out.R
      have HAT := Lib.hid hat
      have S6 := Lib.hid (S5.out.sto (S5.out.R.set6 at_))
      clear hat g5 C5 S1 S5
      go_wp2_with fail
      clear z0 z1 z2 z3 z4 z5 z6 z7 z8 z9 zf zl c0 c1 c2 cf cl
      refine (number_calls o2 false b s _ S6.out.C (by unfold maxLen; omega)).mono ?_; rintro e w7 ⟨⟨x7, rfl, hx7⟩, g7, C7⟩
      obtain ⟨tx, rfl⟩ := text_is x7
      obtain ⟨o3, ho3⟩ : ∃ o, o = o2.bind fun _ r => Ow.num false r := ⟨_, rfl⟩
      rw [← ho3] at C7 hx7
      have hn7 : ∀ v r, o3 = .ok v r → tx = v := fun v r e => str_inj (hx7 v r e)
      have S7 := Lib.hid (S6.out.call g7 C7)
      obtain ⟨z0, z1, z2, z3, z4, z5, z6, z7, z8, z9, zf, zl⟩ := S7.out.R
      have S8 := Lib.hid (S7.out.sto (S7.out.R.set5 tx))
      clear g7 C7 S6 S7 hx7
      go_wp2_with fail
      clear z0 z1 z2 z3 z4 z5 z6 z7 z8 z9 zf zl
      refine (scnext_calls o3 b s _ S8.out.C (by unfold maxLen; omega)).mono ?_; rintro e w9 ⟨rfl, b9⟩
      have S9 := Lib.hid (S8.out.call (sc_below b9 _) (S8.out.C.below b9))
      clear b9 S8
      cases hP3 : o3 with
      | fell r3 =>
        rw [hP3] at S9
        have hr := Lib.hid (show Q = .fell r3 by
          have h3 := ho3; rw [hP3] at h3
          rw [HQ.out]
          cases ho : ot with
          | fell r =>
            rw [ho] at ho2; rw [ho2] at h3
            have e : r3 = r := by injection h3
            rw [e]; rfl
          | ok tg r =>
            rw [ho] at ho2
            have ho2 : o2 = Ow.lit [32] r := ho2
            show (Ow.lit [32] r).bind _ = _
            rw [← ho2]
            cases h2 : o2 with
            | fell r =>
              rw [h2] at h3
              have e : r3 = r := by injection h3
              rw [e]; rfl
            | ok u r =>
              rw [h2] at h3
              have h3 : Ow.Out.fell r3 = Ow.num false r := h3
              show (Ow.num false r).bind _ = _; rw [← h3]; rfl)
        obtain ⟨c0, c1, c2, cf, cl⟩ := S9.out.C.num
        obtain ⟨xr, hxr⟩ : ∃ xr : Ow.Rw, xr = ⟨0, nm, of, [], tx, at_, false, [], 0⟩ := ⟨_, rfl⟩
        have SX := Lib.hid (show RmAt w w9 b s (Ow.Out.fell r3 : Ow.Out (List UInt8)) xr (.slice A n cap) L by rw [hxr]; have := S9.out; exact ⟨this.C, by obtain ⟨z0, z1, z2, z3, z4, z5, z6, z7, z8, z9, zf, zl⟩ := this.R; exact ⟨z0, z1, z2, z3, z4, z5, z6, z7, z8, z9, zf, zl⟩, this.Z, this.G, this.T, this.l1⟩)
        clear S9 ho2 ho3 hP3 HQ hn7 hxr HAT
        generalize Ow.hd (Ow.Out.fell r3 : Ow.Out (List UInt8)).rest = HD
        obtain ⟨hb, hhb⟩ : ∃ hb, (HD == (32 : Int)) = hb := ⟨_, rfl⟩
        cases hb
        · have FZ := Lib.hid (show ScO ((((((((((w9.setCell ⟨w.heap.size, 0, none⟩ (.int .i64 xr.k)).setCell ⟨w.heap.size, 1, none⟩ (.string (str xr.n))).setCell ⟨w.heap.size, 2, none⟩ (.int .i64 (xr.off : Nat))).setCell ⟨w.heap.size, 3, none⟩ (.slice A n cap)).setCell ⟨w.heap.size, 4, none⟩ (.slice none 0 0)).setCell ⟨w.heap.size, 5, none⟩ (.string (str xr.text))).setCell ⟨w.heap.size, 6, none⟩ (.int .i64 (xr.at_ : Nat))).setCell ⟨w.heap.size, 7, none⟩ (.bool xr.td)).setCell ⟨w.heap.size, 8, none⟩ (.string (str xr.tm))).setCell ⟨w.heap.size, 9, none⟩ (.int .i64 (xr.wh : Nat))) b s _ ∧ RwAt ((((((((((w9.setCell ⟨w.heap.size, 0, none⟩ (.int .i64 xr.k)).setCell ⟨w.heap.size, 1, none⟩ (.string (str xr.n))).setCell ⟨w.heap.size, 2, none⟩ (.int .i64 (xr.off : Nat))).setCell ⟨w.heap.size, 3, none⟩ (.slice A n cap)).setCell ⟨w.heap.size, 4, none⟩ (.slice none 0 0)).setCell ⟨w.heap.size, 5, none⟩ (.string (str xr.text))).setCell ⟨w.heap.size, 6, none⟩ (.int .i64 (xr.at_ : Nat))).setCell ⟨w.heap.size, 7, none⟩ (.bool xr.td)).setCell ⟨w.heap.size, 8, none⟩ (.string (str xr.tm))).setCell ⟨w.heap.size, 9, none⟩ (.int .i64 (xr.wh : Nat))) w.heap.size (xr, .slice A n cap) ∧ w.grownBy ((((((((((w9.setCell ⟨w.heap.size, 0, none⟩ (.int .i64 xr.k)).setCell ⟨w.heap.size, 1, none⟩ (.string (str xr.n))).setCell ⟨w.heap.size, 2, none⟩ (.int .i64 (xr.off : Nat))).setCell ⟨w.heap.size, 3, none⟩ (.slice A n cap)).setCell ⟨w.heap.size, 4, none⟩ (.slice none 0 0)).setCell ⟨w.heap.size, 5, none⟩ (.string (str xr.text))).setCell ⟨w.heap.size, 6, none⟩ (.int .i64 (xr.at_ : Nat))).setCell ⟨w.heap.size, 7, none⟩ (.bool xr.td)).setCell ⟨w.heap.size, 8, none⟩ (.string (str xr.tm))).setCell ⟨w.heap.size, 9, none⟩ (.int .i64 (xr.wh : Nat))) (some b) ∧ TgOwn ((((((((((w9.setCell ⟨w.heap.size, 0, none⟩ (.int .i64 xr.k)).setCell ⟨w.heap.size, 1, none⟩ (.string (str xr.n))).setCell ⟨w.heap.size, 2, none⟩ (.int .i64 (xr.off : Nat))).setCell ⟨w.heap.size, 3, none⟩ (.slice A n cap)).setCell ⟨w.heap.size, 4, none⟩ (.slice none 0 0)).setCell ⟨w.heap.size, 5, none⟩ (.string (str xr.text))).setCell ⟨w.heap.size, 6, none⟩ (.int .i64 (xr.at_ : Nat))).setCell ⟨w.heap.size, 7, none⟩ (.bool xr.td)).setCell ⟨w.heap.size, 8, none⟩ (.string (str xr.tm))).setCell ⟨w.heap.size, 9, none⟩ (.int .i64 (xr.wh : Nat))) w.heap.size (.slice A n cap) L from SX.out.fin)
          obtain ⟨z0, z1, z2, z3, z4, z5, z6, z7, z8, z9, zf, zl⟩ := SX.out.R
          obtain ⟨y0, y1, y2, y3, y4, y5, y6, y7, y8, y9, yf, yl⟩ := SX.out.Z
          dsimp only at z0 z1 z2 z3 z4 z5 z6 z7 z8 z9 y0 y1 y2 y3 y4 y5 y6 y7 y8 y9
          clear SX
          go_wp2
          clear z0 z1 z2 z3 z4 z5 z6 z7 z8 z9 zf zl y0 y1 y2 y3 y4 y5 y6 y7 y8 y9 yf yl
          generalize hWZ : ((((((((((w9.setCell ⟨w.heap.size, 0, none⟩ (.int .i64 xr.k)).setCell ⟨w.heap.size, 1, none⟩ (.string (str xr.n))).setCell ⟨w.heap.size, 2, none⟩ (.int .i64 (xr.off : Nat))).setCell ⟨w.heap.size, 3, none⟩ (.slice A n cap)).setCell ⟨w.heap.size, 4, none⟩ (.slice none 0 0)).setCell ⟨w.heap.size, 5, none⟩ (.string (str xr.text))).setCell ⟨w.heap.size, 6, none⟩ (.int .i64 (xr.at_ : Nat))).setCell ⟨w.heap.size, 7, none⟩ (.bool xr.td)).setCell ⟨w.heap.size, 8, none⟩ (.string (str xr.tm))).setCell ⟨w.heap.size, 9, none⟩ (.int .i64 (xr.wh : Nat))) = WZ at *
          clear hWZ
          obtain ⟨FC, FR, FG, FT⟩ := FZ.out
          obtain ⟨y0, y1, y2, y3, y4, y5, y6, y7, y8, y9, yf, yl⟩ := FR
          refine bodyPost_ret (v := rwv (xr, .slice A n cap)) (by simp [results, Tryd.results24, go_sem, y0, y1, y2, y3, y4, y5, y6, y7, y8, y9, rwv]) rfl ?_
          exact ⟨xr, A, n, cap, L, rfl, FC.to (by rw [hr.out]; rfl) (by rw [hr.out]; rfl), FG, FT, fun R r e => (by rw [hr.out] at e; cases e)⟩
        · have FZ := Lib.hid (show ScO ((((((((((w9.setCell ⟨w.heap.size, 0, none⟩ (.int .i64 xr.k)).setCell ⟨w.heap.size, 1, none⟩ (.string (str xr.n))).setCell ⟨w.heap.size, 2, none⟩ (.int .i64 (xr.off : Nat))).setCell ⟨w.heap.size, 3, none⟩ (.slice A n cap)).setCell ⟨w.heap.size, 4, none⟩ (.slice none 0 0)).setCell ⟨w.heap.size, 5, none⟩ (.string (str xr.text))).setCell ⟨w.heap.size, 6, none⟩ (.int .i64 (xr.at_ : Nat))).setCell ⟨w.heap.size, 7, none⟩ (.bool xr.td)).setCell ⟨w.heap.size, 8, none⟩ (.string (str xr.tm))).setCell ⟨w.heap.size, 9, none⟩ (.int .i64 (xr.wh : Nat))) b s _ ∧ RwAt ((((((((((w9.setCell ⟨w.heap.size, 0, none⟩ (.int .i64 xr.k)).setCell ⟨w.heap.size, 1, none⟩ (.string (str xr.n))).setCell ⟨w.heap.size, 2, none⟩ (.int .i64 (xr.off : Nat))).setCell ⟨w.heap.size, 3, none⟩ (.slice A n cap)).setCell ⟨w.heap.size, 4, none⟩ (.slice none 0 0)).setCell ⟨w.heap.size, 5, none⟩ (.string (str xr.text))).setCell ⟨w.heap.size, 6, none⟩ (.int .i64 (xr.at_ : Nat))).setCell ⟨w.heap.size, 7, none⟩ (.bool xr.td)).setCell ⟨w.heap.size, 8, none⟩ (.string (str xr.tm))).setCell ⟨w.heap.size, 9, none⟩ (.int .i64 (xr.wh : Nat))) w.heap.size (xr, .slice A n cap) ∧ w.grownBy ((((((((((w9.setCell ⟨w.heap.size, 0, none⟩ (.int .i64 xr.k)).setCell ⟨w.heap.size, 1, none⟩ (.string (str xr.n))).setCell ⟨w.heap.size, 2, none⟩ (.int .i64 (xr.off : Nat))).setCell ⟨w.heap.size, 3, none⟩ (.slice A n cap)).setCell ⟨w.heap.size, 4, none⟩ (.slice none 0 0)).setCell ⟨w.heap.size, 5, none⟩ (.string (str xr.text))).setCell ⟨w.heap.size, 6, none⟩ (.int .i64 (xr.at_ : Nat))).setCell ⟨w.heap.size, 7, none⟩ (.bool xr.td)).setCell ⟨w.heap.size, 8, none⟩ (.string (str xr.tm))).setCell ⟨w.heap.size, 9, none⟩ (.int .i64 (xr.wh : Nat))) (some b) ∧ TgOwn ((((((((((w9.setCell ⟨w.heap.size, 0, none⟩ (.int .i64 xr.k)).setCell ⟨w.heap.size, 1, none⟩ (.string (str xr.n))).setCell ⟨w.heap.size, 2, none⟩ (.int .i64 (xr.off : Nat))).setCell ⟨w.heap.size, 3, none⟩ (.slice A n cap)).setCell ⟨w.heap.size, 4, none⟩ (.slice none 0 0)).setCell ⟨w.heap.size, 5, none⟩ (.string (str xr.text))).setCell ⟨w.heap.size, 6, none⟩ (.int .i64 (xr.at_ : Nat))).setCell ⟨w.heap.size, 7, none⟩ (.bool xr.td)).setCell ⟨w.heap.size, 8, none⟩ (.string (str xr.tm))).setCell ⟨w.heap.size, 9, none⟩ (.int .i64 (xr.wh : Nat))) w.heap.size (.slice A n cap) L from SX.out.fin)
          obtain ⟨z0, z1, z2, z3, z4, z5, z6, z7, z8, z9, zf, zl⟩ := SX.out.R
          obtain ⟨y0, y1, y2, y3, y4, y5, y6, y7, y8, y9, yf, yl⟩ := SX.out.Z
          dsimp only at z0 z1 z2 z3 z4 z5 z6 z7 z8 z9 y0 y1 y2 y3 y4 y5 y6 y7 y8 y9
          clear SX
          go_wp2
          clear z0 z1 z2 z3 z4 z5 z6 z7 z8 z9 zf zl y0 y1 y2 y3 y4 y5 y6 y7 y8 y9 yf yl
          generalize hWZ : ((((((((((w9.setCell ⟨w.heap.size, 0, none⟩ (.int .i64 xr.k)).setCell ⟨w.heap.size, 1, none⟩ (.string (str xr.n))).setCell ⟨w.heap.size, 2, none⟩ (.int .i64 (xr.off : Nat))).setCell ⟨w.heap.size, 3, none⟩ (.slice A n cap)).setCell ⟨w.heap.size, 4, none⟩ (.slice none 0 0)).setCell ⟨w.heap.size, 5, none⟩ (.string (str xr.text))).setCell ⟨w.heap.size, 6, none⟩ (.int .i64 (xr.at_ : Nat))).setCell ⟨w.heap.size, 7, none⟩ (.bool xr.td)).setCell ⟨w.heap.size, 8, none⟩ (.string (str xr.tm))).setCell ⟨w.heap.size, 9, none⟩ (.int .i64 (xr.wh : Nat))) = WZ at *
          clear hWZ
          obtain ⟨FC, FR, FG, FT⟩ := FZ.out
          obtain ⟨y0, y1, y2, y3, y4, y5, y6, y7, y8, y9, yf, yl⟩ := FR
          refine bodyPost_ret (v := rwv (xr, .slice A n cap)) (by simp [results, Tryd.results24, go_sem, y0, y1, y2, y3, y4, y5, y6, y7, y8, y9, rwv]) rfl ?_
          exact ⟨xr, A, n, cap, L, rfl, FC.to (by rw [hr.out]; rfl) (by rw [hr.out]; rfl), FG, FT, fun R r e => (by rw [hr.out] at e; cases e)⟩
      | ok tx2 r4 =>
        rw [hP3] at S9
        obtain rfl := hn7 _ _ hP3
        obtain ⟨tg, r2, u, r3, hot1, ho21⟩ : ∃ tg r2 u r3, ot = .ok tg r2 ∧ o2 = .ok u r3 := by
          cases ho : ot with
          | fell r => rw [ho] at ho2; rw [ho2] at ho3; rw [ho3] at hP3; cases hP3
          | ok tg r2 =>
            cases h2 : o2 with
            | fell r => rw [h2] at ho3; rw [ho3] at hP3; cases hP3
            | ok u r3 => exact ⟨tg, r2, u, r3, rfl, rfl⟩
        have hl32 : Ow.lit [32] r2 = .ok u r3 := by rw [← ho21, ho2, hot1]; rfl
        have hnum : Ow.num false r3 = .ok tx r4 := by rw [← hP3, ho3, ho21]; rfl
        obtain rfl := hot _ _ hot1
        have hat : at_ = s.length - r3.length := by rw [HAT.out, ho21]; rfl
        have HQ2 := Lib.hid (show Q = if r4.head? = some 32 then (Ow.num false r4.tail).bind fun tm r5 => .ok ⟨0, nm, of, L, tx, at_, true, tm, s.length - r4.tail.length⟩ r5 else .ok ⟨0, nm, of, L, tx, at_, false, [], 0⟩ r4 by
          rw [HQ.out, hot1]; show (Ow.lit [32] r2).bind _ = _; rw [hl32]; show (Ow.num false r3).bind _ = _; rw [hnum, hat]; rfl)
        have hrs : r4 <:+ s := S9.out.C.suf
        obtain ⟨c0, c1, c2, cf, cl⟩ := S9.out.C.num
        have hdm : (Ow.hd r4 == (32 : Int)) = decide (r4.head? = some 32) := Ow.hd_is (l := r4) (c := 32) (by decide)
        clear ho2 ho3 hP3 HQ hn7 HAT hot1 ho21 hl32 hnum hat
        rw [show (Ow.Out.ok tx r4).rest = r4 from rfl]
        rw [show s.length - (Ow.Out.ok tx r4).rest.length = s.length - r4.length from rfl] at c1
        by_cases q : r4.head? = some 32
        rotate_left
        · rw [decide_eq_false q] at hdm
          rw [if_neg q] at HQ2
          generalize Ow.hd r4 = HD at *
          obtain ⟨xr, hxr⟩ : ∃ xr : Ow.Rw, xr = ⟨0, nm, of, L, tx, at_, false, [], 0⟩ := ⟨_, rfl⟩
          have SX := Lib.hid (show RmAt w w9 b s (Ow.Out.ok tx r4) xr (.slice A n cap) L by rw [hxr]; have := S9.out; exact ⟨this.C, by obtain ⟨z0, z1, z2, z3, z4, z5, z6, z7, z8, z9, zf, zl⟩ := this.R; exact ⟨z0, z1, z2, z3, z4, z5, z6, z7, z8, z9, zf, zl⟩, this.Z, this.G, this.T, this.l1⟩)
          have hr := Lib.hid (show Q = .ok xr r4 ∧ L = xr.tags by rw [HQ2.out, hxr]; exact ⟨rfl, rfl⟩)
          clear S9 HQ2 hxr q
          have FZ := Lib.hid (show ScO ((((((((((w9.setCell ⟨w.heap.size, 0, none⟩ (.int .i64 xr.k)).setCell ⟨w.heap.size, 1, none⟩ (.string (str xr.n))).setCell ⟨w.heap.size, 2, none⟩ (.int .i64 (xr.off : Nat))).setCell ⟨w.heap.size, 3, none⟩ (.slice A n cap)).setCell ⟨w.heap.size, 4, none⟩ (.slice none 0 0)).setCell ⟨w.heap.size, 5, none⟩ (.string (str xr.text))).setCell ⟨w.heap.size, 6, none⟩ (.int .i64 (xr.at_ : Nat))).setCell ⟨w.heap.size, 7, none⟩ (.bool xr.td)).setCell ⟨w.heap.size, 8, none⟩ (.string (str xr.tm))).setCell ⟨w.heap.size, 9, none⟩ (.int .i64 (xr.wh : Nat))) b s _ ∧ RwAt ((((((((((w9.setCell ⟨w.heap.size, 0, none⟩ (.int .i64 xr.k)).setCell ⟨w.heap.size, 1, none⟩ (.string (str xr.n))).setCell ⟨w.heap.size, 2, none⟩ (.int .i64 (xr.off : Nat))).setCell ⟨w.heap.size, 3, none⟩ (.slice A n cap)).setCell ⟨w.heap.size, 4, none⟩ (.slice none 0 0)).setCell ⟨w.heap.size, 5, none⟩ (.string (str xr.text))).setCell ⟨w.heap.size, 6, none⟩ (.int .i64 (xr.at_ : Nat))).setCell ⟨w.heap.size, 7, none⟩ (.bool xr.td)).setCell ⟨w.heap.size, 8, none⟩ (.string (str xr.tm))).setCell ⟨w.heap.size, 9, none⟩ (.int .i64 (xr.wh : Nat))) w.heap.size (xr, .slice A n cap) ∧ w.grownBy ((((((((((w9.setCell ⟨w.heap.size, 0, none⟩ (.int .i64 xr.k)).setCell ⟨w.heap.size, 1, none⟩ (.string (str xr.n))).setCell ⟨w.heap.size, 2, none⟩ (.int .i64 (xr.off : Nat))).setCell ⟨w.heap.size, 3, none⟩ (.slice A n cap)).setCell ⟨w.heap.size, 4, none⟩ (.slice none 0 0)).setCell ⟨w.heap.size, 5, none⟩ (.string (str xr.text))).setCell ⟨w.heap.size, 6, none⟩ (.int .i64 (xr.at_ : Nat))).setCell ⟨w.heap.size, 7, none⟩ (.bool xr.td)).setCell ⟨w.heap.size, 8, none⟩ (.string (str xr.tm))).setCell ⟨w.heap.size, 9, none⟩ (.int .i64 (xr.wh : Nat))) (some b) ∧ TgOwn ((((((((((w9.setCell ⟨w.heap.size, 0, none⟩ (.int .i64 xr.k)).setCell ⟨w.heap.size, 1, none⟩ (.string (str xr.n))).setCell ⟨w.heap.size, 2, none⟩ (.int .i64 (xr.off : Nat))).setCell ⟨w.heap.size, 3, none⟩ (.slice A n cap)).setCell ⟨w.heap.size, 4, none⟩ (.slice none 0 0)).setCell ⟨w.heap.size, 5, none⟩ (.string (str xr.text))).setCell ⟨w.heap.size, 6, none⟩ (.int .i64 (xr.at_ : Nat))).setCell ⟨w.heap.size, 7, none⟩ (.bool xr.td)).setCell ⟨w.heap.size, 8, none⟩ (.string (str xr.tm))).setCell ⟨w.heap.size, 9, none⟩ (.int .i64 (xr.wh : Nat))) w.heap.size (.slice A n cap) L from SX.out.fin)
          obtain ⟨z0, z1, z2, z3, z4, z5, z6, z7, z8, z9, zf, zl⟩ := SX.out.R
          obtain ⟨y0, y1, y2, y3, y4, y5, y6, y7, y8, y9, yf, yl⟩ := SX.out.Z
          dsimp only at z0 z1 z2 z3 z4 z5 z6 z7 z8 z9 y0 y1 y2 y3 y4 y5 y6 y7 y8 y9
          clear SX
          go_wp2
          clear z0 z1 z2 z3 z4 z5 z6 z7 z8 z9 zf zl y0 y1 y2 y3 y4 y5 y6 y7 y8 y9 yf yl
          generalize hWZ : ((((((((((w9.setCell ⟨w.heap.size, 0, none⟩ (.int .i64 xr.k)).setCell ⟨w.heap.size, 1, none⟩ (.string (str xr.n))).setCell ⟨w.heap.size, 2, none⟩ (.int .i64 (xr.off : Nat))).setCell ⟨w.heap.size, 3, none⟩ (.slice A n cap)).setCell ⟨w.heap.size, 4, none⟩ (.slice none 0 0)).setCell ⟨w.heap.size, 5, none⟩ (.string (str xr.text))).setCell ⟨w.heap.size, 6, none⟩ (.int .i64 (xr.at_ : Nat))).setCell ⟨w.heap.size, 7, none⟩ (.bool xr.td)).setCell ⟨w.heap.size, 8, none⟩ (.string (str xr.tm))).setCell ⟨w.heap.size, 9, none⟩ (.int .i64 (xr.wh : Nat))) = WZ at *
          clear hWZ
          obtain ⟨FC, FR, FG, FT⟩ := FZ.out
          obtain ⟨y0, y1, y2, y3, y4, y5, y6, y7, y8, y9, yf, yl⟩ := FR
          refine bodyPost_ret (v := rwv (xr, .slice A n cap)) (by simp [results, Tryd.results24, go_sem, y0, y1, y2, y3, y4, y5, y6, y7, y8, y9, rwv]) rfl ?_
          exact ⟨xr, A, n, cap, L, rfl, FC.to (by rw [hr.out.1]; rfl) (by rw [hr.out.1]; rfl), FG, FT, fun R r e => (by rw [hr.out.1] at e; injection e with e1 e2; exact ⟨e1, by rw [← e1]; exact hr.out.2⟩)⟩
        · rw [decide_eq_true q] at hdm
          rw [if_pos q] at HQ2
          have hrt := Ow.head_some q
          have hkl : s.length - r4.length + 1 = s.length - r4.tail.length := by
            have h1 := hrs.length_le
            have h2 := congrArg List.length hrt
            simp only [List.length_cons] at h2
            omega
          generalize Ow.hd r4 = HD at *
          obtain ⟨K1, hK1⟩ : ∃ k, k = s.length - r4.length := ⟨_, rfl⟩
          obtain ⟨K2, hK2⟩ : ∃ k, k = s.length - r4.tail.length := ⟨_, rfl⟩
          rw [← hK1] at c1 hkl
          rw [← hK2] at HQ2 hkl
          have hw : IntKind.i64.wrap ((K1 : Int) + 1) = (K2 : Int) := by
            rw [show (K1 : Int) + 1 = (K2 : Int) by omega]; exact IntWalk.i64_in _ (by omega)
          have CM : ScO (w9.setCell ⟨b, 1, none⟩ (.int .i64 (K2 : Nat))) b s (Ow.Out.ok () r4.tail) := ⟨(List.tail_suffix r4).trans hrs, by show ScA _ b s (s.length - r4.tail.length) false; rw [← hK2]; exact S9.out.C.num.move K2⟩
          have SA := Lib.hid (S9.out.call (sc_set (sc_below (Below.refl _ _) _)) CM)
          obtain ⟨z0, z1, z2, z3, z4, z5, z6, z7, z8, z9, zf, zl⟩ := SA.out.R
          have SB := Lib.hid (SA.out.sto (SA.out.R.set7 true))
          have SC := Lib.hid (SB.out.sto (SB.out.R.set9 K2))
          clear hK1 hK2 hkl CM S9 SA SB hrt q
          obtain ⟨z0, z1, z2, z3, z4, z5, z6, z7, z8, z9, zf, zl⟩ := SC.out.R
          go_wp2_with fail
          refine (number_calls (Ow.Out.ok () r4.tail) false b s _ SC.out.C (by unfold maxLen; omega)).mono ?_; rintro e wB ⟨⟨xB, rfl, hxB⟩, gB, CB⟩
          clear z0 z1 z2 z3 z4 z5 z6 z7 z8 z9 zf zl c0 c1 c2 cf cl
          obtain ⟨tm, rfl⟩ := text_is xB
          have CB : ScO wB b s (Ow.num false r4.tail) := CB
          have hxB : ∀ v r, Ow.num false r4.tail = .ok v r → tm = v := fun v r e => str_inj (hxB v r e)
          have SD := Lib.hid (SC.out.call gB CB)
          obtain ⟨z0, z1, z2, z3, z4, z5, z6, z7, z8, z9, zf, zl⟩ := SD.out.R
          have SE := Lib.hid (SD.out.sto (SD.out.R.set8 tm))
          obtain ⟨xr, hxr⟩ : ∃ xr : Ow.Rw, xr = ⟨0, nm, of, L, tx, at_, true, tm, K2⟩ := ⟨_, rfl⟩
          have SX := Lib.hid (show RmAt w (wB.setCell ⟨w.heap.size + 1, 8, none⟩ (.string (str tm))) b s (Ow.num false r4.tail) xr (.slice A n cap) L by rw [hxr]; have := SE.out; exact ⟨this.C, by obtain ⟨z0, z1, z2, z3, z4, z5, z6, z7, z8, z9, zf, zl⟩ := this.R; exact ⟨z0, z1, z2, z3, z4, z5, z6, z7, z8, z9, zf, zl⟩, this.Z, this.G, this.T, this.l1⟩)
          have hr := Lib.hid (show Q.rest = (Ow.num false r4.tail).rest ∧ Ow.fellB Q = Ow.fellB (Ow.num false r4.tail) ∧ ∀ R r, Q = .ok R r → xr = R ∧ L = R.tags by
            rw [HQ2.out, hxr]
            cases hq : Ow.num false r4.tail with
            | fell r => exact ⟨rfl, rfl, fun R r e => (by cases e)⟩
            | ok v r =>
              obtain rfl := hxB _ _ hq
              exact ⟨rfl, rfl, fun R r e => (by injection e with e1 e2; exact ⟨e1, by rw [← e1]⟩)⟩)
          clear SE SC SD HQ2 hxr gB CB hxB
          have FZ := Lib.hid (show ScO (((((((((((wB.setCell ⟨w.heap.size + 1, 8, none⟩ (.string (str tm))).setCell ⟨w.heap.size, 0, none⟩ (.int .i64 xr.k)).setCell ⟨w.heap.size, 1, none⟩ (.string (str xr.n))).setCell ⟨w.heap.size, 2, none⟩ (.int .i64 (xr.off : Nat))).setCell ⟨w.heap.size, 3, none⟩ (.slice A n cap)).setCell ⟨w.heap.size, 4, none⟩ (.slice none 0 0)).setCell ⟨w.heap.size, 5, none⟩ (.string (str xr.text))).setCell ⟨w.heap.size, 6, none⟩ (.int .i64 (xr.at_ : Nat))).setCell ⟨w.heap.size, 7, none⟩ (.bool xr.td)).setCell ⟨w.heap.size, 8, none⟩ (.string (str xr.tm))).setCell ⟨w.heap.size, 9, none⟩ (.int .i64 (xr.wh : Nat))) b s _ ∧ RwAt (((((((((((wB.setCell ⟨w.heap.size + 1, 8, none⟩ (.string (str tm))).setCell ⟨w.heap.size, 0, none⟩ (.int .i64 xr.k)).setCell ⟨w.heap.size, 1, none⟩ (.string (str xr.n))).setCell ⟨w.heap.size, 2, none⟩ (.int .i64 (xr.off : Nat))).setCell ⟨w.heap.size, 3, none⟩ (.slice A n cap)).setCell ⟨w.heap.size, 4, none⟩ (.slice none 0 0)).setCell ⟨w.heap.size, 5, none⟩ (.string (str xr.text))).setCell ⟨w.heap.size, 6, none⟩ (.int .i64 (xr.at_ : Nat))).setCell ⟨w.heap.size, 7, none⟩ (.bool xr.td)).setCell ⟨w.heap.size, 8, none⟩ (.string (str xr.tm))).setCell ⟨w.heap.size, 9, none⟩ (.int .i64 (xr.wh : Nat))) w.heap.size (xr, .slice A n cap) ∧ w.grownBy (((((((((((wB.setCell ⟨w.heap.size + 1, 8, none⟩ (.string (str tm))).setCell ⟨w.heap.size, 0, none⟩ (.int .i64 xr.k)).setCell ⟨w.heap.size, 1, none⟩ (.string (str xr.n))).setCell ⟨w.heap.size, 2, none⟩ (.int .i64 (xr.off : Nat))).setCell ⟨w.heap.size, 3, none⟩ (.slice A n cap)).setCell ⟨w.heap.size, 4, none⟩ (.slice none 0 0)).setCell ⟨w.heap.size, 5, none⟩ (.string (str xr.text))).setCell ⟨w.heap.size, 6, none⟩ (.int .i64 (xr.at_ : Nat))).setCell ⟨w.heap.size, 7, none⟩ (.bool xr.td)).setCell ⟨w.heap.size, 8, none⟩ (.string (str xr.tm))).setCell ⟨w.heap.size, 9, none⟩ (.int .i64 (xr.wh : Nat))) (some b) ∧ TgOwn (((((((((((wB.setCell ⟨w.heap.size + 1, 8, none⟩ (.string (str tm))).setCell ⟨w.heap.size, 0, none⟩ (.int .i64 xr.k)).setCell ⟨w.heap.size, 1, none⟩ (.string (str xr.n))).setCell ⟨w.heap.size, 2, none⟩ (.int .i64 (xr.off : Nat))).setCell ⟨w.heap.size, 3, none⟩ (.slice A n cap)).setCell ⟨w.heap.size, 4, none⟩ (.slice none 0 0)).setCell ⟨w.heap.size, 5, none⟩ (.string (str xr.text))).setCell ⟨w.heap.size, 6, none⟩ (.int .i64 (xr.at_ : Nat))).setCell ⟨w.heap.size, 7, none⟩ (.bool xr.td)).setCell ⟨w.heap.size, 8, none⟩ (.string (str xr.tm))).setCell ⟨w.heap.size, 9, none⟩ (.int .i64 (xr.wh : Nat))) w.heap.size (.slice A n cap) L from SX.out.fin)
          obtain ⟨z0, z1, z2, z3, z4, z5, z6, z7, z8, z9, zf, zl⟩ := SX.out.R
          obtain ⟨y0, y1, y2, y3, y4, y5, y6, y7, y8, y9, yf, yl⟩ := SX.out.Z
          dsimp only at z0 z1 z2 z3 z4 z5 z6 z7 z8 z9 y0 y1 y2 y3 y4 y5 y6 y7 y8 y9
          clear SX
          go_wp2
          clear z0 z1 z2 z3 z4 z5 z6 z7 z8 z9 zf zl y0 y1 y2 y3 y4 y5 y6 y7 y8 y9 yf yl
          generalize hWZ : (((((((((((wB.setCell ⟨w.heap.size + 1, 8, none⟩ (.string (str tm))).setCell ⟨w.heap.size, 0, none⟩ (.int .i64 xr.k)).setCell ⟨w.heap.size, 1, none⟩ (.string (str xr.n))).setCell ⟨w.heap.size, 2, none⟩ (.int .i64 (xr.off : Nat))).setCell ⟨w.heap.size, 3, none⟩ (.slice A n cap)).setCell ⟨w.heap.size, 4, none⟩ (.slice none 0 0)).setCell ⟨w.heap.size, 5, none⟩ (.string (str xr.text))).setCell ⟨w.heap.size, 6, none⟩ (.int .i64 (xr.at_ : Nat))).setCell ⟨w.heap.size, 7, none⟩ (.bool xr.td)).setCell ⟨w.heap.size, 8, none⟩ (.string (str xr.tm))).setCell ⟨w.heap.size, 9, none⟩ (.int .i64 (xr.wh : Nat))) = WZ at *
          clear hWZ
          obtain ⟨FC, FR, FG, FT⟩ := FZ.out
          obtain ⟨y0, y1, y2, y3, y4, y5, y6, y7, y8, y9, yf, yl⟩ := FR
          refine bodyPost_ret (v := rwv (xr, .slice A n cap)) (by simp [results, Tryd.results24, go_sem, y0, y1, y2, y3, y4, y5, y6, y7, y8, y9, rwv]) rfl ?_
          exact ⟨xr, A, n, cap, L, rfl, FC.to hr.out.1 hr.out.2.1, FG, FT, hr.out.2.2⟩

end Go.Proofs.YthniemoganoapaaDoor
