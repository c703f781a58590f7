/- The walk of the cursor's tag of package openword (layer 17). -/
import Derived.Test.YthniemoganoapaaDoorOpD
import Derived.Test.YthniemoganoapaaDoorRefOwH
set_option maxRecDepth 100000
set_option linter.unusedVariables false
set_option linter.unusedSimpArgs false
namespace Go.Proofs.YthniemoganoapaaDoor
open Go.RowKit
attribute [local go_sem ↓] Go.wp_at_zero Go.wp_at_succ

def tgv (t : Ow.Tg) : Value := .agg #[.string (str t.n), .string (str t.v), .int .i64 (t.off : Nat), .int .i64 (t.at_ : Nat)]
theorem b0_grown {W X Y : World} {row : Option Nat} (h : Below 0 W X) (g : X.grownBy Y row) : Below 0 W Y := ⟨g.os.trans h.os, g.tape.trans h.tape, g.output.trans h.output, Nat.le_trans h.size g.size, fun j hj => absurd hj (Nat.not_lt_zero _)⟩
theorem al_size (w : World) (o : Obj) : (w.alloc o).heap.size = w.heap.size + 1 := by simp
theorem TgAt.all {w : World} {c : Nat} {u : Ow.Tg} (h : TgAt w c u) (t : Ow.Tg) : TgAt ((((w.setCell ⟨c, 0, none⟩ (.string (str t.n))).setCell ⟨c, 1, none⟩ (.string (str t.v))).setCell ⟨c, 2, none⟩ (.int .i64 (t.off : Nat))).setCell ⟨c, 3, none⟩ (.int .i64 (t.at_ : Nat))) c t := by
  obtain ⟨h0, h1, h2, h3, hf, hl⟩ := h
  exact ⟨by go_simp, by go_simp, by go_simp, by go_simp, fun o => by go_simp, by simpa [World.setCell] using hl⟩
theorem gr_set {w X : World} {b c i : Nat} {v : Value} (h : w.grownBy X (some b)) (hc : w.heap.size ≤ c) : w.grownBy (X.setCell ⟨c, i, none⟩ v) (some b) :=
  gr_belowB h ((Below.refl _ _).setCell (p := ⟨c, i, none⟩) hc v)
theorem gr_all {w X : World} {b c : Nat} {v0 v1 v2 v3 : Value} (h : w.grownBy X (some b)) (hc : w.heap.size ≤ c) : w.grownBy ((((X.setCell ⟨c, 0, none⟩ v0).setCell ⟨c, 1, none⟩ v1).setCell ⟨c, 2, none⟩ v2).setCell ⟨c, 3, none⟩ v3) (some b) :=
  gr_set (gr_set (gr_set (gr_set h hc) hc) hc) hc
theorem Cur.set {w : World} {b k c i : Nat} {s : List UInt8} {v : Value} (h : Cur w b s k) (hc : b < c) : Cur (w.setCell ⟨c, i, none⟩ v) b s k :=
  h.belowB ((Below.refl c w).setCell (p := ⟨c, i, none⟩) (Nat.le_refl _) v) hc
theorem Cur.all {w : World} {b k c : Nat} {s : List UInt8} {v0 v1 v2 v3 : Value} (h : Cur w b s k) (hc : b < c) : Cur ((((w.setCell ⟨c, 0, none⟩ v0).setCell ⟨c, 1, none⟩ v1).setCell ⟨c, 2, none⟩ v2).setCell ⟨c, 3, none⟩ v3) b s k :=
  (((h.set hc).set hc).set hc).set hc
theorem TgAt.set {w : World} {c d i : Nat} {t : Ow.Tg} {v : Value} (h : TgAt w c t) (hd : c ≠ d) : TgAt (w.setCell ⟨d, i, none⟩ v) c t :=
  h.grown (row := some d) (sc_set (sc_below (Below.refl _ _) _)) (by intro e; injection e with e; exact hd e)
theorem TgAt.alls {w : World} {c d : Nat} {t : Ow.Tg} {v0 v1 v2 v3 : Value} (h : TgAt w c t) (hc : c ≠ d) : TgAt ((((w.setCell ⟨d, 0, none⟩ v0).setCell ⟨d, 1, none⟩ v1).setCell ⟨d, 2, none⟩ v2).setCell ⟨d, 3, none⟩ v3) c t :=
  (((h.set hc).set hc).set hc).set hc
namespace Ow
/-- a label, as the code goes -/
def tagC (N : Nat) (l : List UInt8) : Out Tg :=
  (name 15 11 l).bind fun nm r1 => (lit [61] r1).bind fun _ r2 => (lit [34] r2).bind fun _ r3 => (str 34 [10] [92, 34, 110] 110 r3).bind fun v r4 => (lit [34] r4).bind fun _ r5 => .ok ⟨nm, v, N - l.length, N - r3.length⟩ r5
theorem tag1_is (N : Nat) (l : List UInt8) : tag1 N l = tagC N l := by
  unfold tag1 tagC
  rw [name_run in15 in11]
  congr 1
  funext nm r1
  rw [lit_two]
  cases lit [61] r1 <;> rfl
end Ow

set_option maxHeartbeats 8000000 in
theorem otag_calls (b k : Nat) (s : List UInt8) (w : World) (h : Cur w b s k) (hs : s.length ≤ 1000000) :
    Calls Tryd.prog 65 #[.pointer (some ⟨b, 0, none⟩)] w fun e w' =>
      (∃ x : Ow.Tg, e = .returned (.tuple #[tgv x, .bool (Ow.okB (Ow.tag1 s.length (s.drop k)))]) ∧ ∀ v r, Ow.tag1 s.length (s.drop k) = .ok v r → x = v) ∧
      w.grownBy w' (some b) ∧ Took w' b s k (Ow.tag1 s.length (s.drop k)) := by
  have hm : s.length ≤ maxLen := by unfold maxLen; omega
  have HT := Lib.hid (fun (t : UInt8) j W (hW : Cur W b s j) => take_calls t b j s W hW hm)
  have HN := Lib.hid (fun W (hW : Cur W b s k) => name_calls 15 11 b k s W (Or.inr rfl) hW hm)
  have HX := Lib.hid (fun j W (hW : Cur W b s j) => otext_calls text_v b j s W hW hs)
  obtain ⟨o, ho⟩ : ∃ o, o = Ow.tag1 s.length (s.drop k) := ⟨_, rfl⟩
  rw [← ho]
  have HO := Lib.hid (ho.trans (Ow.tag1_is _ _))
  have hblt := h.lt
  have hle := h.le
  have hlk : s.length - (s.drop k).length = k := by rw [List.length_drop]; omega
  have HLK := Lib.hid hlk
  clear ho hm hlk
  obtain ⟨W1, hW1⟩ : ∃ X, X = (w.alloc (.cells #[.string ⟨#[]⟩, .string ⟨#[]⟩, .int .i64 0, .int .i64 0] 44)).alloc (.cells #[.string ⟨#[]⟩, .string ⟨#[]⟩, .int .i64 (k : Nat), .int .i64 0] 44) := ⟨_, rfl⟩
  have B1 : Below w.heap.size w W1 := by rw [hW1]; exact ((Below.refl _ _).alloc (Nat.le_refl _) _).alloc (by simp) _
  have C1 := Lib.hid (h.below B1)
  have G1 := Lib.hid (sc_below B1 (some b))
  have R1 := Lib.hid (show TgAt W1 w.heap.size ⟨[], [], 0, 0⟩ by rw [hW1]; exact (TgAt.new w 0 _).belowB (B := w.heap.size + 1) ((Below.refl _ _).alloc (Nat.le_of_eq (al_size _ _).symm) _) (Nat.lt_succ_self _))
  have T1 := Lib.hid (show TgAt W1 (w.heap.size + 1) ⟨[], [], k, 0⟩ by rw [hW1]; have := TgAt.new (w.alloc (.cells #[.string ⟨#[]⟩, .string ⟨#[]⟩, .int .i64 0, .int .i64 0] 44)) k 44; simpa using this)
  obtain ⟨c0, c1, fr, lt, le, -⟩ := h
  go_enter Tryd.func65, Tryd.ntmps65
  go_wp2_with fail
  rw [← hW1]
  clear hW1 B1 c0 c1 fr lt
  refine (HN.out _ C1.out).mono ?_; rintro e w2 ⟨⟨x, rfl, hx⟩, g2, j, hkj, hj, H2⟩
  obtain ⟨nm, rfl⟩ := text_is x
  have C2 := Lib.hid H2
  have G2 := Lib.hid (sc_trans G1.out g2)
  have R2 := Lib.hid (R1.out.grown g2 (by intro e; injection e; omega))
  have T2 := Lib.hid (T1.out.grown g2 (by intro e; injection e; omega))
  clear H2 g2 C1 G1 R1 T1
  cases hP : Ow.name 15 11 (s.drop k) with
  | fell r =>
    rw [hP] at hj
    obtain rfl : r = s.drop j := hj
    have hr := Lib.hid (show o = .fell (s.drop j) by rw [HO.out]; unfold Ow.tagC; rw [hP]; rfl)
    clear HO hP hx
    obtain ⟨z0, z1, z2, z3, zf, zl⟩ := T2.out
    have C3 := Lib.hid (C2.out.set (i := 0) (v := .string (str nm)) (c := w.heap.size + 1) (by omega))
    have G3 := Lib.hid (gr_set (i := 0) (v := .string (str nm)) G2.out (Nat.le_succ _))
    have R3 := Lib.hid (R2.out.set (i := 0) (v := .string (str nm)) (d := w.heap.size + 1) (by omega))
    have T3 := T2
    clear R2 C2 G2
    obtain ⟨y0, y1, y2, y3, yf, yl⟩ := R3.out
    have CZ := Lib.hid (C3.out.all (v0 := .string ⟨#[]⟩) (v1 := .string ⟨#[]⟩) (v2 := .int .i64 0) (v3 := .int .i64 0) hblt)
    have GZ := Lib.hid (gr_all (v0 := .string ⟨#[]⟩) (v1 := .string ⟨#[]⟩) (v2 := .int .i64 0) (v3 := .int .i64 0) G3.out (Nat.le_refl _))
    have RZ := Lib.hid (show TgAt (((((w2.setCell ⟨w.heap.size + 1, 0, none⟩ (.string (str nm))).setCell ⟨w.heap.size, 0, none⟩ (.string ⟨#[]⟩)).setCell ⟨w.heap.size, 1, none⟩ (.string ⟨#[]⟩)).setCell ⟨w.heap.size, 2, none⟩ (.int .i64 0)).setCell ⟨w.heap.size, 3, none⟩ (.int .i64 0)) w.heap.size ⟨[], [], 0, 0⟩ from R3.out.all ⟨[], [], 0, 0⟩)
    clear R3 T3
    go_wp2
    clear y0 y1 y2 y3 yf yl
    generalize hWZ : (((((w2.setCell ⟨w.heap.size + 1, 0, none⟩ (.string (str nm))).setCell ⟨w.heap.size, 0, none⟩ (.string ⟨#[]⟩)).setCell ⟨w.heap.size, 1, none⟩ (.string ⟨#[]⟩)).setCell ⟨w.heap.size, 2, none⟩ (.int .i64 0)).setCell ⟨w.heap.size, 3, none⟩ (.int .i64 0)) = WZ at *
    clear hWZ
    obtain ⟨y0, y1, y2, y3, yf, yl⟩ := RZ.out
    refine bodyPost_ret (v := .tuple #[tgv ⟨[], [], 0, 0⟩, .bool false]) (by simp [results, Tryd.results65, go_sem, y0, y1, y2, y3, tgv]) rfl ?_
    exact ⟨⟨_, by rw [hr.out]; rfl, fun v r e => (by rw [hr.out] at e; cases e)⟩, GZ.out, j, by omega, by rw [hr.out]; rfl, CZ.out⟩
  | ok v r =>
    rw [hP] at hj
    obtain rfl : r = s.drop j := hj
    obtain rfl : nm = v := str_inj (hx v _ hP)
    have hO2 := Lib.hid (show o = ((Ow.lit [61] (s.drop j)).bind fun _ r2 => (Ow.lit [34] r2).bind fun _ r3 => (Ow.str 34 [10] [92, 34, 110] 110 r3).bind fun v r4 => (Ow.lit [34] r4).bind fun _ r5 => .ok ⟨nm, v, s.length - (s.drop k).length, s.length - r3.length⟩ r5) by rw [HO.out]; unfold Ow.tagC; rw [hP]; rfl)
    rw [HLK.out] at hO2
    clear HO hP hx
    have C3 := Lib.hid (C2.out.set (i := 0) (v := .string (str nm)) (c := w.heap.size + 1) (by omega))
    have G3 := Lib.hid (gr_set (i := 0) (v := .string (str nm)) G2.out (Nat.le_succ _))
    have R3 := Lib.hid (R2.out.set (i := 0) (v := .string (str nm)) (d := w.heap.size + 1) (by omega))
    have T3 := Lib.hid (T2.out.set0 nm)
    obtain ⟨z0, z1, z2, z3, zf, zl⟩ := T2.out
    clear R2 C2 G2 T2
    go_wp2_with fail
    clear z0 z1 z2 z3 zf zl
    refine (HT.out 61 j _ C3.out).mono ?_; rintro e w4 ⟨rfl, g4, j4, hj4, hd4, H4⟩
    have C4 := Lib.hid H4
    have G4 := Lib.hid (sc_trans G3.out g4)
    have R4 := Lib.hid (R3.out.grown g4 (by intro e; injection e; omega))
    have T4 := Lib.hid (T3.out.grown g4 (by intro e; injection e; omega))
    clear H4 g4 C3 G3 R3 T3
    cases hP : Ow.lit [61] (s.drop j) with
    | fell r =>
      rw [hP] at hd4 hO2
      obtain rfl : r = s.drop j4 := hd4
      have hr := Lib.hid (show o = .fell (s.drop j4) from hO2.out)
      clear hO2 hP
      obtain ⟨y0, y1, y2, y3, yf, yl⟩ := R4.out
      have CZ := Lib.hid (C4.out.all (v0 := .string ⟨#[]⟩) (v1 := .string ⟨#[]⟩) (v2 := .int .i64 0) (v3 := .int .i64 0) hblt)
      have GZ := Lib.hid (gr_all (v0 := .string ⟨#[]⟩) (v1 := .string ⟨#[]⟩) (v2 := .int .i64 0) (v3 := .int .i64 0) G4.out (Nat.le_refl _))
      have RZ := Lib.hid (show TgAt ((((w4.setCell ⟨w.heap.size, 0, none⟩ (.string ⟨#[]⟩)).setCell ⟨w.heap.size, 1, none⟩ (.string ⟨#[]⟩)).setCell ⟨w.heap.size, 2, none⟩ (.int .i64 0)).setCell ⟨w.heap.size, 3, none⟩ (.int .i64 0)) w.heap.size ⟨[], [], 0, 0⟩ from R4.out.all ⟨[], [], 0, 0⟩)
      clear R4 T4
      go_wp2
      clear y0 y1 y2 y3 yf yl
      generalize hWZ : ((((w4.setCell ⟨w.heap.size, 0, none⟩ (.string ⟨#[]⟩)).setCell ⟨w.heap.size, 1, none⟩ (.string ⟨#[]⟩)).setCell ⟨w.heap.size, 2, none⟩ (.int .i64 0)).setCell ⟨w.heap.size, 3, none⟩ (.int .i64 0)) = WZ at *
      clear hWZ
      obtain ⟨y0, y1, y2, y3, yf, yl⟩ := RZ.out
      refine bodyPost_ret (v := .tuple #[tgv ⟨[], [], 0, 0⟩, .bool false]) (by simp [results, Tryd.results65, go_sem, y0, y1, y2, y3, tgv]) rfl ?_
      exact ⟨⟨_, by rw [hr.out]; rfl, fun v r e => (by rw [hr.out] at e; cases e)⟩, GZ.out, j4, by omega, by rw [hr.out]; rfl, CZ.out⟩
    | ok u r =>
      rw [hP] at hd4 hO2
      obtain rfl : r = s.drop j4 := hd4
      have hO3 := Lib.hid (show o = ((Ow.lit [34] (s.drop j4)).bind fun _ r3 => (Ow.str 34 [10] [92, 34, 110] 110 r3).bind fun v r4 => (Ow.lit [34] r4).bind fun _ r5 => .ok ⟨nm, v, k, s.length - r3.length⟩ r5) from hO2.out)
      clear hO2 hP
      go_wp2_with fail
      refine (HT.out 34 j4 _ C4.out).mono ?_; rintro e w5 ⟨rfl, g5, j5, hj5, hd5, H5⟩
      have C5 := Lib.hid H5
      have G5 := Lib.hid (sc_trans G4.out g5)
      have R5 := Lib.hid (R4.out.grown g5 (by intro e; injection e; omega))
      have T5 := Lib.hid (T4.out.grown g5 (by intro e; injection e; omega))
      have hl5 := H5.le
      clear H5 g5 C4 G4 R4 T4
      cases hP : Ow.lit [34] (s.drop j4) with
      | fell r =>
        rw [hP] at hd5 hO3
        obtain rfl : r = s.drop j5 := hd5
        have hr := Lib.hid (show o = .fell (s.drop j5) from hO3.out)
        clear hO3 hP
        obtain ⟨y0, y1, y2, y3, yf, yl⟩ := R5.out
        have CZ := Lib.hid (C5.out.all (v0 := .string ⟨#[]⟩) (v1 := .string ⟨#[]⟩) (v2 := .int .i64 0) (v3 := .int .i64 0) hblt)
        have GZ := Lib.hid (gr_all (v0 := .string ⟨#[]⟩) (v1 := .string ⟨#[]⟩) (v2 := .int .i64 0) (v3 := .int .i64 0) G5.out (Nat.le_refl _))
        have RZ := Lib.hid (show TgAt ((((w5.setCell ⟨w.heap.size, 0, none⟩ (.string ⟨#[]⟩)).setCell ⟨w.heap.size, 1, none⟩ (.string ⟨#[]⟩)).setCell ⟨w.heap.size, 2, none⟩ (.int .i64 0)).setCell ⟨w.heap.size, 3, none⟩ (.int .i64 0)) w.heap.size ⟨[], [], 0, 0⟩ from R5.out.all ⟨[], [], 0, 0⟩)
        clear R5 T5
        go_wp2
        clear y0 y1 y2 y3 yf yl
        generalize hWZ : ((((w5.setCell ⟨w.heap.size, 0, none⟩ (.string ⟨#[]⟩)).setCell ⟨w.heap.size, 1, none⟩ (.string ⟨#[]⟩)).setCell ⟨w.heap.size, 2, none⟩ (.int .i64 0)).setCell ⟨w.heap.size, 3, none⟩ (.int .i64 0)) = WZ at *
        clear hWZ
        obtain ⟨y0, y1, y2, y3, yf, yl⟩ := RZ.out
        refine bodyPost_ret (v := .tuple #[tgv ⟨[], [], 0, 0⟩, .bool false]) (by simp [results, Tryd.results65, go_sem, y0, y1, y2, y3, tgv]) rfl ?_
        exact ⟨⟨_, by rw [hr.out]; rfl, fun v r e => (by rw [hr.out] at e; cases e)⟩, GZ.out, j5, by omega, by rw [hr.out]; rfl, CZ.out⟩
      | ok u r =>
        rw [hP] at hd5 hO3
        obtain rfl : r = s.drop j5 := hd5
        have hO4 := Lib.hid (show o = ((Ow.str 34 [10] [92, 34, 110] 110 (s.drop j5)).bind fun v r4 => (Ow.lit [34] r4).bind fun _ r5 => .ok ⟨nm, v, k, s.length - (s.drop j5).length⟩ r5) from hO3.out)
        rw [show s.length - (s.drop j5).length = j5 by rw [List.length_drop]; omega] at hO4
        clear hO3 hP
        have C6 := Lib.hid (C5.out.set (i := 3) (v := .int .i64 (j5 : Nat)) (c := w.heap.size + 1) (by omega))
        have G6 := Lib.hid (gr_set (i := 3) (v := .int .i64 (j5 : Nat)) G5.out (Nat.le_succ _))
        have R6 := Lib.hid (R5.out.set (i := 3) (v := .int .i64 (j5 : Nat)) (d := w.heap.size + 1) (by omega))
        have T6 := Lib.hid (T5.out.set3 j5)
        obtain ⟨c0, c1, cf, cl, -, -⟩ := C5.out
        obtain ⟨z0, z1, z2, z3, zf, zl⟩ := T5.out
        clear R5 C5 G5 T5
        go_wp2_with fail
        clear z0 z1 z2 z3 zf zl c0 c1 cf cl
        refine (HX.out j5 _ C6.out).mono ?_; rintro e w7 ⟨⟨x, t, rfl, hx1, hx2⟩, g7, j7, hj7, hd7, H7⟩
        obtain ⟨va, rfl⟩ := text_is x
        have C7 := Lib.hid (H7.set (i := 1) (v := .string (str va)) (c := w.heap.size + 1) (by omega))
        have G7 := Lib.hid (gr_set (i := 1) (v := .string (str va)) (sc_trans G6.out g7) (Nat.le_succ _))
        have R7 := Lib.hid ((R6.out.grown g7 (by intro e; injection e; omega)).set (i := 1) (v := .string (str va)) (d := w.heap.size + 1) (by omega))
        have T7 := Lib.hid ((T6.out.grown g7 (by intro e; injection e; omega)).set1 va)
        obtain ⟨z0, z1, z2, z3, zf, zl⟩ := T6.out.grown g7 (by intro e; injection e; omega)
        clear R6 C6 G6 T6 H7 g7
        have hO5 : Hid (if t = true then (o = (Ow.lit [34] (s.drop j7)).bind fun _ r5 => .ok ⟨nm, va, k, j5⟩ r5) else o = .fell (s.drop j7)) := Lib.hid (by
          cases hP : Ow.str 34 [10] [92, 34, 110] 110 (s.drop j5) with
          | fell r =>
            rw [hP] at hd7 hx2 hO4
            obtain rfl : r = s.drop j7 := hd7
            cases t with
            | false => exact hO4.out
            | true =>
              rw [if_pos rfl, Ow.take_no (hx2 _ rfl rfl)]; exact hO4.out
          | ok v r =>
            rw [hP] at hd7 hx1 hO4
            obtain rfl : r = s.drop j7 := hd7
            obtain ⟨rfl, h2⟩ := hx1 _ _ rfl
            obtain rfl := str_inj h2
            exact hO4.out)
        clear hO4 hx1 hx2 hd7
        cases t with
        | false =>
          have hr := Lib.hid (show o = .fell (s.drop j7) from hO5.out)
          clear hO5
          go_upto_region 8 with fail
          generalize hW8 : w7.setCell ⟨w.heap.size + 1, 1, none⟩ (.string (str va)) = W8 at *
          have C8 := C7
          have G8 := G7
          have R8 := R7
          have T8 := T7
          clear hW8 z0 z1 z2 z3 zf zl C7 G7 R7 T7
          refine wp_region_noPanic ?_
          refine wp_region_held_drew (S := fun X => Below 0 W8 X) (by kernel_rfl) ?_ (fun hHeld => ?_)
          · exact Below.drew (Below.refl _ _)
          have kB : Below 0 W8 W8.drew := Below.drew (Below.refl _ _)
          clear hHeld
          have kC := C8.out.drewN 1
          have kT := T8.out.grown (row := none) (sc_below (below_drewN (Below.refl _ _) 1) none) (by intro e; cases e)
          have kR := R8.out.grown (row := none) (sc_below (below_drewN (Below.refl _ _) 1) none) (by intro e; cases e)
          have kG := sc_drewN G8.out 1
          change Cur W8.drew b s j7 at kC
          change TgAt W8.drew _ _ at kT
          change TgAt W8.drew _ _ at kR
          change w.grownBy W8.drew _ at kG
          obtain ⟨WD, hWD⟩ : ∃ X, X = W8.drew := ⟨_, rfl⟩
          rw [← hWD] at kB kC kT kR kG ⊢
          clear hWD
          refine tk9 1 kB ?_
          refine tk9 2 kB ?_
          refine tk9 3 kB ?_ (v := undef) (hy := Or.inr ⟨by rfl, rfl⟩)
          refine tk9 4 kB ?_ (v := undef) (hy := Or.inr ⟨by rfl, rfl⟩)
          refine tk9 5 kB ?_
          refine wpAnyH_ready (rs := [0]) (by kernel_rfl) (by simp) ?_
          refine AllReadyH.cons (by simp only [List.getElem?_toArray, List.getElem?_cons_succ, List.getElem?_cons_zero]; rfl) (fun K hK => ?_) AllReadyH.nil
          have kT2 := kT
          obtain ⟨z0, z1, z2, z3, zf, zl⟩ := kT2
          go_simp
          clear z0 z1 z2 z3 zf zl
          refine hK.out _ _ kB (fun hHeld => ?_)
          clear hK K hHeld
          (try simp only [Act.put, List.setIfInBounds_toArray, List.set_cons_zero, List.set_cons_succ])
          refine wpAnyH_ready (rs := [6]) (by kernel_rfl) (by simp) ?_
          refine AllReadyH.cons (by simp only [List.getElem?_toArray, List.getElem?_cons_succ, List.getElem?_cons_zero]; rfl) (fun K hK => ?_) AllReadyH.nil
          have kR2 := kR
          obtain ⟨y0, y1, y2, y3, yf, yl⟩ := kR2
          go_simp
          clear y0 y1 y2 y3 yf yl
          replace kR := kR.all ⟨nm, va, k, j5⟩
          replace kC := kC.all (v0 := .string (str nm)) (v1 := .string (str va)) (v2 := .int .i64 (k : Nat)) (v3 := .int .i64 (j5 : Nat)) hblt
          replace kG := gr_all (v0 := .string (str nm)) (v1 := .string (str va)) (v2 := .int .i64 (k : Nat)) (v3 := .int .i64 (j5 : Nat)) kG (Nat.le_refl _)
          replace kB := (((kB.setCell (p := ⟨w.heap.size, 0, none⟩) (Nat.zero_le _) (.string (str nm))).setCell (p := ⟨w.heap.size, 1, none⟩) (Nat.zero_le _) (.string (str va))).setCell (p := ⟨w.heap.size, 2, none⟩) (Nat.zero_le _) (.int .i64 (k : Nat))).setCell (p := ⟨w.heap.size, 3, none⟩) (Nat.zero_le _) (.int .i64 (j5 : Nat))
          obtain ⟨WZ, hWZ⟩ : ∃ X, X = ((((WD.setCell ⟨w.heap.size, 0, none⟩ (.string (str nm))).setCell ⟨w.heap.size, 1, none⟩ (.string (str va))).setCell ⟨w.heap.size, 2, none⟩ (.int .i64 (k : Nat))).setCell ⟨w.heap.size, 3, none⟩ (.int .i64 (j5 : Nat))) := ⟨_, rfl⟩
          rw [← hWZ] at kR kC kG kB ⊢
          clear hWZ
          refine hK.out _ _ kB (fun hHeld => ?_)
          clear hK K hHeld
          (try simp only [Act.put, List.setIfInBounds_toArray, List.set_cons_zero, List.set_cons_succ])
          refine tk9 7 kB ?_
          refine wpAnyH_done (by kernel_rfl) ?_ _
          refine NoPanic.normal ?_
          have KC := Lib.hid kC
          have KG := Lib.hid kG
          have KR := Lib.hid kR
          clear kC kG kR kT kB
          go_wp2
          obtain ⟨y0, y1, y2, y3, yf, yl⟩ := KR.out
          refine bodyPost_ret (v := .tuple #[tgv ⟨nm, va, k, j5⟩, .bool false]) (by simp [results, Tryd.results65, go_sem, y0, y1, y2, y3, tgv]) rfl ?_
          exact ⟨⟨_, by rw [hr.out]; rfl, fun v r e => (by rw [hr.out] at e; cases e)⟩, KG.out, j7, by omega, by rw [hr.out]; rfl, KC.out⟩
        | true =>
          have hO6 := Lib.hid (show o = ((Ow.lit [34] (s.drop j7)).bind fun _ r5 => .ok ⟨nm, va, k, j5⟩ r5) from hO5.out)
          clear hO5
          go_upto_region 8 with fail
          generalize hW8 : w7.setCell ⟨w.heap.size + 1, 1, none⟩ (.string (str va)) = W8 at *
          have C8 := C7
          have G8 := G7
          have R8 := R7
          have T8 := T7
          clear hW8 z0 z1 z2 z3 zf zl C7 G7 R7 T7
          refine wp_region_noPanic ?_
          refine wp_region_held_drew (S := fun X => Below 0 W8 X) (by kernel_rfl) ?_ (fun hHeld => ?_)
          · exact Below.drew (Below.refl _ _)
          have kB : Below 0 W8 W8.drew := Below.drew (Below.refl _ _)
          clear hHeld
          have kC := C8.out.drewN 1
          have kT := T8.out.grown (row := none) (sc_below (below_drewN (Below.refl _ _) 1) none) (by intro e; cases e)
          have kR := R8.out.grown (row := none) (sc_below (below_drewN (Below.refl _ _) 1) none) (by intro e; cases e)
          have kG := sc_drewN G8.out 1
          change Cur W8.drew b s j7 at kC
          change TgAt W8.drew _ _ at kT
          change TgAt W8.drew _ _ at kR
          change w.grownBy W8.drew _ at kG
          obtain ⟨WD, hWD⟩ : ∃ X, X = W8.drew := ⟨_, rfl⟩
          rw [← hWD] at kB kC kT kR kG ⊢
          clear hWD
          refine tk9 1 kB ?_
          refine tk9 2 kB ?_
          refine tk9 3 kB ?_
          refine wpAnyH_ready (rs := [0, 4]) (by kernel_rfl) (by simp) ?_
          refine AllReadyH.cons (by simp only [List.getElem?_toArray, List.getElem?_cons_succ, List.getElem?_cons_zero]; rfl) (fun K hK => ?_) ?_
          · have kT2 := kT
            obtain ⟨z0, z1, z2, z3, zf, zl⟩ := kT2
            go_simp
            clear z0 z1 z2 z3 zf zl
            refine hK.out _ _ kB (fun hHeld => ?_)
            clear hK K hHeld
            (try simp only [Act.put, List.setIfInBounds_toArray, List.set_cons_zero, List.set_cons_succ])
            refine wpAnyH_ready (rs := [4]) (by kernel_rfl) (by simp) ?_
            refine AllReadyH.cons (by simp only [List.getElem?_toArray, List.getElem?_cons_succ, List.getElem?_cons_zero]; rfl) (fun K hK => ?_) AllReadyH.nil
            try go_simp
            refine (HT.out 34 j7 _ kC).mono ?_
            rintro e w9 ⟨rfl, g9, j9, hj9, hd9, H9⟩
            replace kT := kT.grown g9 (by intro e; injection e; omega)
            replace kR := kR.grown g9 (by intro e; injection e; omega)
            replace kG := sc_trans kG g9
            replace kB := b0_grown kB g9
            replace kC := H9
            clear g9 H9
            refine hK.out _ _ kB (fun hHeld => ?_)
            clear hK K hHeld
            (try simp only [Act.put, List.setIfInBounds_toArray, List.set_cons_zero, List.set_cons_succ])
            refine tk9 5 kB ?_
            refine wpAnyH_ready (rs := [6]) (by kernel_rfl) (by simp) ?_
            refine AllReadyH.cons (by simp only [List.getElem?_toArray, List.getElem?_cons_succ, List.getElem?_cons_zero]; rfl) (fun K hK => ?_) AllReadyH.nil
            have kR2 := kR
            obtain ⟨y0, y1, y2, y3, yf, yl⟩ := kR2
            go_simp
            clear y0 y1 y2 y3 yf yl
            replace kR := kR.all ⟨nm, va, k, j5⟩
            replace kC := kC.all (v0 := .string (str nm)) (v1 := .string (str va)) (v2 := .int .i64 (k : Nat)) (v3 := .int .i64 (j5 : Nat)) hblt
            replace kG := gr_all (v0 := .string (str nm)) (v1 := .string (str va)) (v2 := .int .i64 (k : Nat)) (v3 := .int .i64 (j5 : Nat)) kG (Nat.le_refl _)
            replace kB := (((kB.setCell (p := ⟨w.heap.size, 0, none⟩) (Nat.zero_le _) (.string (str nm))).setCell (p := ⟨w.heap.size, 1, none⟩) (Nat.zero_le _) (.string (str va))).setCell (p := ⟨w.heap.size, 2, none⟩) (Nat.zero_le _) (.int .i64 (k : Nat))).setCell (p := ⟨w.heap.size, 3, none⟩) (Nat.zero_le _) (.int .i64 (j5 : Nat))
            obtain ⟨WZ, hWZ⟩ : ∃ X, X = ((((w9.setCell ⟨w.heap.size, 0, none⟩ (.string (str nm))).setCell ⟨w.heap.size, 1, none⟩ (.string (str va))).setCell ⟨w.heap.size, 2, none⟩ (.int .i64 (k : Nat))).setCell ⟨w.heap.size, 3, none⟩ (.int .i64 (j5 : Nat))) := ⟨_, rfl⟩
            rw [← hWZ] at kR kC kG kB ⊢
            clear hWZ
            refine hK.out _ _ kB (fun hHeld => ?_)
            clear hK K hHeld
            (try simp only [Act.put, List.setIfInBounds_toArray, List.set_cons_zero, List.set_cons_succ])
            refine tk9 7 kB ?_
            refine wpAnyH_done (by kernel_rfl) ?_ _
            refine NoPanic.normal ?_
            have HD := Lib.hid hd9
            have KC := Lib.hid kC
            have KG := Lib.hid kG
            have KR := Lib.hid kR
            clear hd9 kC kG kR kT kB
            go_wp2
            obtain ⟨y0, y1, y2, y3, yf, yl⟩ := KR.out
            refine bodyPost_ret (v := .tuple #[tgv ⟨nm, va, k, j5⟩, .bool (Ow.okB (Ow.lit [34] (s.drop j7)))]) (by simp [results, Tryd.results65, go_sem, y0, y1, y2, y3, tgv]) rfl ?_
            refine ⟨⟨_, by rw [hO6.out]; cases Ow.lit [34] (s.drop j7) <;> rfl, fun v r e => ?_⟩, KG.out, j9, by omega, ?_, KC.out⟩
            · rw [hO6.out] at e
              cases hq : Ow.lit [34] (s.drop j7) with
              | fell r => rw [hq] at e; cases e
              | ok u r => rw [hq] at e; injection e with e1 e2; all_goals first | exact e1 | exact e2
            · rw [hO6.out, ← HD.out]; cases Ow.lit [34] (s.drop j7) <;> rfl
          refine AllReadyH.cons (by simp only [List.getElem?_toArray, List.getElem?_cons_succ, List.getElem?_cons_zero]; rfl) (fun K hK => ?_) AllReadyH.nil
          try go_simp
          refine (HT.out 34 j7 _ kC).mono ?_
          rintro e w9 ⟨rfl, g9, j9, hj9, hd9, H9⟩
          replace kT := kT.grown g9 (by intro e; injection e; omega)
          replace kR := kR.grown g9 (by intro e; injection e; omega)
          replace kG := sc_trans kG g9
          replace kB := b0_grown kB g9
          replace kC := H9
          clear g9 H9
          refine hK.out _ _ kB (fun hHeld => ?_)
          clear hK K hHeld
          (try simp only [Act.put, List.setIfInBounds_toArray, List.set_cons_zero, List.set_cons_succ])
          refine tk9 5 kB ?_
          refine wpAnyH_ready (rs := [0]) (by kernel_rfl) (by simp) ?_
          refine AllReadyH.cons (by simp only [List.getElem?_toArray, List.getElem?_cons_succ, List.getElem?_cons_zero]; rfl) (fun K hK => ?_) AllReadyH.nil
          have kT2 := kT
          obtain ⟨z0, z1, z2, z3, zf, zl⟩ := kT2
          go_simp
          clear z0 z1 z2 z3 zf zl
          refine hK.out _ _ kB (fun hHeld => ?_)
          clear hK K hHeld
          (try simp only [Act.put, List.setIfInBounds_toArray, List.set_cons_zero, List.set_cons_succ])
          refine wpAnyH_ready (rs := [6]) (by kernel_rfl) (by simp) ?_
          refine AllReadyH.cons (by simp only [List.getElem?_toArray, List.getElem?_cons_succ, List.getElem?_cons_zero]; rfl) (fun K hK => ?_) AllReadyH.nil
          have kR2 := kR
          obtain ⟨y0, y1, y2, y3, yf, yl⟩ := kR2
          go_simp
          clear y0 y1 y2 y3 yf yl
          replace kR := kR.all ⟨nm, va, k, j5⟩
          replace kC := kC.all (v0 := .string (str nm)) (v1 := .string (str va)) (v2 := .int .i64 (k : Nat)) (v3 := .int .i64 (j5 : Nat)) hblt
          replace kG := gr_all (v0 := .string (str nm)) (v1 := .string (str va)) (v2 := .int .i64 (k : Nat)) (v3 := .int .i64 (j5 : Nat)) kG (Nat.le_refl _)
          replace kB := (((kB.setCell (p := ⟨w.heap.size, 0, none⟩) (Nat.zero_le _) (.string (str nm))).setCell (p := ⟨w.heap.size, 1, none⟩) (Nat.zero_le _) (.string (str va))).setCell (p := ⟨w.heap.size, 2, none⟩) (Nat.zero_le _) (.int .i64 (k : Nat))).setCell (p := ⟨w.heap.size, 3, none⟩) (Nat.zero_le _) (.int .i64 (j5 : Nat))
          obtain ⟨WZ, hWZ⟩ : ∃ X, X = ((((w9.setCell ⟨w.heap.size, 0, none⟩ (.string (str nm))).setCell ⟨w.heap.size, 1, none⟩ (.string (str va))).setCell ⟨w.heap.size, 2, none⟩ (.int .i64 (k : Nat))).setCell ⟨w.heap.size, 3, none⟩ (.int .i64 (j5 : Nat))) := ⟨_, rfl⟩
          rw [← hWZ] at kR kC kG kB ⊢
          clear hWZ
          refine hK.out _ _ kB (fun hHeld => ?_)
          clear hK K hHeld
          (try simp only [Act.put, List.setIfInBounds_toArray, List.set_cons_zero, List.set_cons_succ])
          refine tk9 7 kB ?_
          refine wpAnyH_done (by kernel_rfl) ?_ _
          refine NoPanic.normal ?_
          have HD := Lib.hid hd9
          have KC := Lib.hid kC
          have KG := Lib.hid kG
          have KR := Lib.hid kR
          clear hd9 kC kG kR kT kB
          go_wp2
          obtain ⟨y0, y1, y2, y3, yf, yl⟩ := KR.out
          refine bodyPost_ret (v := .tuple #[tgv ⟨nm, va, k, j5⟩, .bool (Ow.okB (Ow.lit [34] (s.drop j7)))]) (by simp [results, Tryd.results65, go_sem, y0, y1, y2, y3, tgv]) rfl ?_
          refine ⟨⟨_, by rw [hO6.out]; cases Ow.lit [34] (s.drop j7) <;> rfl, fun v r e => ?_⟩, KG.out, j9, by omega, ?_, KC.out⟩
          · rw [hO6.out] at e
            cases hq : Ow.lit [34] (s.drop j7) with
            | fell r => rw [hq] at e; cases e
            | ok u r => rw [hq] at e; injection e with e1 e2; all_goals first | exact e1 | exact e2
          · rw [hO6.out, ← HD.out]; cases Ow.lit [34] (s.drop j7) <;> rfl

end Go.Proofs.YthniemoganoapaaDoor
