/- The walk of the cursor's line of package openword (layer 17). -/
import Derived.Test.YthniemoganoapaaDoorOpH
set_option maxRecDepth 100000
set_option linter.unusedVariables false
set_option linter.unusedSimpArgs false
namespace Go.Proofs.YthniemoganoapaaDoor
open Go.RowKit
attribute [local go_sem ↓] Go.wp_at_zero Go.wp_at_succ

theorem RwAt.gr2 {w w' : World} {c b d : Nat} {x : Rs} (h : RwAt w c x) (g : Gr2 w w' b d) (h1 : c ≠ b) (h2 : c ≠ d) : RwAt w' c x := by
  have e : w'.heap[c]? = w.heap[c]? := g.block c h.lt h1 h2
  obtain ⟨a0, a1, a2, a3, a4, a5, a6, a7, a8, a9, af, al⟩ := h
  have hc : ∀ o, w'.cell? ⟨c, o, none⟩ = w.cell? ⟨c, o, none⟩ := fun o => World.cell?_of_block (a := ⟨c, o, none⟩) e
  have hf : ∀ o, w'.frozen? ⟨c, o, none⟩ = w.frozen? ⟨c, o, none⟩ := fun o => by unfold World.frozen?; simp only [e]
  exact ⟨(hc _).trans a0, (hc _).trans a1, (hc _).trans a2, (hc _).trans a3, (hc _).trans a4, (hc _).trans a5, (hc _).trans a6, (hc _).trans a7, (hc _).trans a8, (hc _).trans a9, fun o => (hf o).trans (af o), Nat.lt_of_lt_of_le al g.size⟩
theorem RwAt.new (w : World) (kd : Int) (k : Nat) (ty : TypeId) : RwAt (w.alloc (.cells #[.int .i64 kd, .string ⟨#[]⟩, .int .i64 (k : Nat), .slice none 0 0, .slice none 0 0, .string ⟨#[]⟩, .int .i64 0, .bool false, .string ⟨#[]⟩, .int .i64 0] ty)) w.heap.size (⟨kd, [], k, [], [], 0, false, [], 0⟩, .slice none 0 0) :=
  ⟨by simp, by simp, by simp, by simp, by simp, by simp, by simp, by simp, by simp, by simp, fun o => by simp, by simp⟩
theorem RwAt.all {w : World} {c : Nat} {u : Rs} (h : RwAt w c u) (x : Ow.Rw) (v : Value) : RwAt ((((((((((w.setCell ⟨c, 0, none⟩ (.int .i64 x.k)).setCell ⟨c, 1, none⟩ (.string (str x.n))).setCell ⟨c, 2, none⟩ (.int .i64 (x.off : Nat))).setCell ⟨c, 3, none⟩ (v)).setCell ⟨c, 4, none⟩ (.slice none 0 0)).setCell ⟨c, 5, none⟩ (.string (str x.text))).setCell ⟨c, 6, none⟩ (.int .i64 (x.at_ : Nat))).setCell ⟨c, 7, none⟩ (.bool x.td)).setCell ⟨c, 8, none⟩ (.string (str x.tm))).setCell ⟨c, 9, none⟩ (.int .i64 (x.wh : Nat))) c (x, v) := by
  obtain ⟨h0, h1, h2, h3, h4, h5, h6, h7, h8, h9, hf, hl⟩ := h
  exact ⟨by go_simp, by go_simp, by go_simp, by go_simp, by go_simp, by go_simp, by go_simp, by go_simp, by go_simp, by go_simp, fun o => by go_simp, by simpa [World.setCell] using hl⟩
theorem grown_ten {w : World} {c : Nat} {v0 v1 v2 v3 v4 v5 v6 v7 v8 v9 : Value} : w.grownBy ((((((((((w.setCell ⟨c, 0, none⟩ (v0)).setCell ⟨c, 1, none⟩ (v1)).setCell ⟨c, 2, none⟩ (v2)).setCell ⟨c, 3, none⟩ (v3)).setCell ⟨c, 4, none⟩ (v4)).setCell ⟨c, 5, none⟩ (v5)).setCell ⟨c, 6, none⟩ (v6)).setCell ⟨c, 7, none⟩ (v7)).setCell ⟨c, 8, none⟩ (v8)).setCell ⟨c, 9, none⟩ (v9)) (some c) :=
  sc_set (sc_set (sc_set (sc_set (sc_set (sc_set (sc_set (sc_set (sc_set (sc_set (sc_below (Below.refl _ _) _))))))))))
theorem gr_ten {w X : World} {b c : Nat} {v0 v1 v2 v3 v4 v5 v6 v7 v8 v9 : Value} (h : w.grownBy X (some b)) (hc : w.heap.size ≤ c) : w.grownBy ((((((((((X.setCell ⟨c, 0, none⟩ (v0)).setCell ⟨c, 1, none⟩ (v1)).setCell ⟨c, 2, none⟩ (v2)).setCell ⟨c, 3, none⟩ (v3)).setCell ⟨c, 4, none⟩ (v4)).setCell ⟨c, 5, none⟩ (v5)).setCell ⟨c, 6, none⟩ (v6)).setCell ⟨c, 7, none⟩ (v7)).setCell ⟨c, 8, none⟩ (v8)).setCell ⟨c, 9, none⟩ (v9)) (some b) :=
  gr_set (gr_set (gr_set (gr_set (gr_set (gr_set (gr_set (gr_set (gr_set (gr_set h hc) hc) hc) hc) hc) hc) hc) hc) hc) hc
theorem Cur.ten {w : World} {b k c : Nat} {s : List UInt8} {v0 v1 v2 v3 v4 v5 v6 v7 v8 v9 : Value} (h : Cur w b s k) (hc : b < c) : Cur ((((((((((w.setCell ⟨c, 0, none⟩ (v0)).setCell ⟨c, 1, none⟩ (v1)).setCell ⟨c, 2, none⟩ (v2)).setCell ⟨c, 3, none⟩ (v3)).setCell ⟨c, 4, none⟩ (v4)).setCell ⟨c, 5, none⟩ (v5)).setCell ⟨c, 6, none⟩ (v6)).setCell ⟨c, 7, none⟩ (v7)).setCell ⟨c, 8, none⟩ (v8)).setCell ⟨c, 9, none⟩ (v9)) b s k :=
  (((((((((h.set hc).set hc).set hc).set hc).set hc).set hc).set hc).set hc).set hc).set hc
namespace Ow
/-- a line behind what it begins with, up to its line feed -/
def lineN (kd : Int) (N : Nat) (l : List UInt8) : Out Rw := (row kd N l).bind fun x r => (lit [10] r).bind fun _ r' => .ok x r'
end Ow

set_option maxHeartbeats 16000000 in
theorem oline_calls (b k : Nat) (s : List UInt8) (w : World) (kd : Nat) (hkd : kd ≤ 3) (h : Cur w b s k) (hs : s.length ≤ 1900) :
    Calls Tryd.prog 43 #[.pointer (some ⟨b, 0, none⟩), .int .i64 (kd : Nat)] w fun e w' =>
      (∃ x A n cap M, e = .returned (.tuple #[rwv (x, .slice A n cap), .bool (Ow.okB (Ow.lineN kd s.length (s.drop k)))]) ∧ TgOwn w' w.heap.size (.slice A n cap) M ∧ ∀ R r, Ow.lineN kd s.length (s.drop k) = .ok R r → x = R ∧ M = R.tags) ∧
      w.grownBy w' (some b) ∧ Took w' b s k (Ow.lineN kd s.length (s.drop k)) := by
  have hm : s.length ≤ maxLen := by unfold maxLen; omega
  have HT := Lib.hid (fun (t : UInt8) j W (hW : Cur W b s j) => take_calls t b j s W hW hm)
  have HN := Lib.hid (fun W (hW : Cur W b s k) => name_calls 31 27 b k s W (Or.inl rfl) hW hm)
  have HSm := Lib.hid (fun br j W nm (h : SmAt W W b br s j ⟨0, nm, k, [], [], 0, false, [], 0⟩ (.slice none 0 0) []) => osample_calls b br j s W nm k h hs)
  have HRm := Lib.hid (fun br j W nm (hkd : (kd : Int) = 1 ∨ (kd : Int) = 2 ∨ (kd : Int) = 3) (h : SmAt W W b br s j ⟨kd, nm, k, [], [], 0, false, [], 0⟩ (.slice none 0 0) []) => oremark_calls b br j s W kd hkd nm k h hs)
  obtain ⟨o, ho⟩ : ∃ o, o = Ow.lineN kd s.length (s.drop k) := ⟨_, rfl⟩
  rw [← ho]
  have hblt := h.lt
  have hle := h.le
  have hlk : s.length - (s.drop k).length = k := by rw [List.length_drop]; omega
  have HO := Lib.hid (show o = ((Ow.name 31 27 (s.drop k)).bind fun nm r1 => if (kd : Int) = 0 then Ow.body0 s.length k nm r1 else Ow.body1 kd s.length k nm r1).bind fun x r => (Ow.lit [10] r).bind fun _ r' => .ok x r' by
    rw [ho]; unfold Ow.lineN Ow.row; rw [hlk])
  clear ho hm hlk
  obtain ⟨W1, hW1⟩ : ∃ X, X = (w.alloc (.cells #[.int .i64 0, .string ⟨#[]⟩, .int .i64 0, .slice none 0 0, .slice none 0 0, .string ⟨#[]⟩, .int .i64 0, .bool false, .string ⟨#[]⟩, .int .i64 0] 42)).alloc (.cells #[.int .i64 (kd : Nat), .string ⟨#[]⟩, .int .i64 (k : Nat), .slice none 0 0, .slice none 0 0, .string ⟨#[]⟩, .int .i64 0, .bool false, .string ⟨#[]⟩, .int .i64 0] 42) := ⟨_, rfl⟩
  have B1 : Below w.heap.size w W1 := by rw [hW1]; exact ((Below.refl _ _).alloc (Nat.le_refl _) _).alloc (by simp) _
  have C1 := Lib.hid (h.below B1)
  have G1 := Lib.hid (sc_below B1 (some b))
  have R1 := Lib.hid (show RwAt W1 w.heap.size (⟨0, [], 0, [], [], 0, false, [], 0⟩, .slice none 0 0) by rw [hW1]; exact (RwAt.new w 0 0 _).belowB (B := w.heap.size + 1) ((Below.refl _ _).alloc (Nat.le_of_eq (al_size _ _).symm) _) (Nat.lt_succ_self _))
  have Q1 := Lib.hid (show RwAt W1 (w.heap.size + 1) (⟨kd, [], k, [], [], 0, false, [], 0⟩, .slice none 0 0) by rw [hW1]; have := RwAt.new (w.alloc (.cells #[.int .i64 0, .string ⟨#[]⟩, .int .i64 0, .slice none 0 0, .slice none 0 0, .string ⟨#[]⟩, .int .i64 0, .bool false, .string ⟨#[]⟩, .int .i64 0] 42)) kd k 42; rw [al_size] at this; exact this)
  obtain ⟨c0, c1, fr, lt, le, -⟩ := h
  go_enter Tryd.func43, Tryd.ntmps43
  go_wp2_with fail
  rw [← hW1]
  clear hW1 B1 c0 c1 fr lt
  refine (HN.out _ C1.out).mono ?_; rintro e w2 ⟨⟨x, rfl, hx⟩, g2, j, hkj, hj, H2⟩
  obtain ⟨nm, rfl⟩ := text_is x
  have C2 := Lib.hid H2
  have G2 := Lib.hid (sc_trans G1.out g2)
  have R2 := Lib.hid (R1.out.grown g2 (by intro e; injection e; omega))
  have Q2 := Lib.hid (Q1.out.grown g2 (by intro e; injection e; omega))
  have C3 := Lib.hid (C2.out.set (i := 1) (v := .string (str nm)) (c := w.heap.size + 1) (by omega))
  have G3 := Lib.hid (gr_set (i := 1) (v := .string (str nm)) G2.out (Nat.le_succ _))
  have R3 := Lib.hid (R2.out.grown (row := some (w.heap.size + 1)) (w' := w2.setCell ⟨w.heap.size + 1, 1, none⟩ (.string (str nm))) (sc_set (sc_below (Below.refl _ _) _)) (by intro e; injection e; omega))
  have Q3 := Lib.hid (Q2.out.set1 nm)
  obtain ⟨z0, z1, z2, z3, z4, z5, z6, z7, z8, z9, zf, zl⟩ := Q2.out
  clear H2 g2 C1 G1 R1 Q1 C2 G2 R2 Q2
  cases hP : Ow.name 31 27 (s.drop k) with
  | fell r =>
    rw [hP] at hj
    obtain rfl : r = s.drop j := hj
    have hr := Lib.hid (show o = .fell (s.drop j) by rw [HO.out, hP]; rfl)
    clear HO hP hx
    obtain ⟨y0, y1, y2, y3, y4, y5, y6, y7, y8, y9, yf, yl⟩ := R3.out
    have CZ := Lib.hid (C3.out.ten (c := w.heap.size) (v0 := .int .i64 0) (v1 := .string ⟨#[]⟩) (v2 := .int .i64 0) (v3 := .slice none 0 0) (v4 := .slice none 0 0) (v5 := .string ⟨#[]⟩) (v6 := .int .i64 0) (v7 := .bool false) (v8 := .string ⟨#[]⟩) (v9 := .int .i64 0) hblt)
    have GZ := Lib.hid (gr_ten (c := w.heap.size) (v0 := .int .i64 0) (v1 := .string ⟨#[]⟩) (v2 := .int .i64 0) (v3 := .slice none 0 0) (v4 := .slice none 0 0) (v5 := .string ⟨#[]⟩) (v6 := .int .i64 0) (v7 := .bool false) (v8 := .string ⟨#[]⟩) (v9 := .int .i64 0) G3.out (Nat.le_refl _))
    have RZ := Lib.hid (show RwAt (((((((((((w2.setCell ⟨w.heap.size + 1, 1, none⟩ (.string (str nm))).setCell ⟨w.heap.size, 0, none⟩ (.int .i64 0)).setCell ⟨w.heap.size, 1, none⟩ (.string ⟨#[]⟩)).setCell ⟨w.heap.size, 2, none⟩ (.int .i64 0)).setCell ⟨w.heap.size, 3, none⟩ (.slice none 0 0)).setCell ⟨w.heap.size, 4, none⟩ (.slice none 0 0)).setCell ⟨w.heap.size, 5, none⟩ (.string ⟨#[]⟩)).setCell ⟨w.heap.size, 6, none⟩ (.int .i64 0)).setCell ⟨w.heap.size, 7, none⟩ (.bool false)).setCell ⟨w.heap.size, 8, none⟩ (.string ⟨#[]⟩)).setCell ⟨w.heap.size, 9, none⟩ (.int .i64 0)) w.heap.size (⟨0, [], 0, [], [], 0, false, [], 0⟩, .slice none 0 0) from R3.out.all ⟨0, [], 0, [], [], 0, false, [], 0⟩ (.slice none 0 0))
    clear R3 Q3
    go_wp2
    clear y0 y1 y2 y3 y4 y5 y6 y7 y8 y9 yf yl z0 z1 z2 z3 z4 z5 z6 z7 z8 z9 zf zl
    generalize hWZ : (((((((((((w2.setCell ⟨w.heap.size + 1, 1, none⟩ (.string (str nm))).setCell ⟨w.heap.size, 0, none⟩ (.int .i64 0)).setCell ⟨w.heap.size, 1, none⟩ (.string ⟨#[]⟩)).setCell ⟨w.heap.size, 2, none⟩ (.int .i64 0)).setCell ⟨w.heap.size, 3, none⟩ (.slice none 0 0)).setCell ⟨w.heap.size, 4, none⟩ (.slice none 0 0)).setCell ⟨w.heap.size, 5, none⟩ (.string ⟨#[]⟩)).setCell ⟨w.heap.size, 6, none⟩ (.int .i64 0)).setCell ⟨w.heap.size, 7, none⟩ (.bool false)).setCell ⟨w.heap.size, 8, none⟩ (.string ⟨#[]⟩)).setCell ⟨w.heap.size, 9, none⟩ (.int .i64 0)) = WZ at *
    clear hWZ
    obtain ⟨y0, y1, y2, y3, y4, y5, y6, y7, y8, y9, yf, yl⟩ := RZ.out
    refine bodyPost_ret (v := .tuple #[rwv (⟨0, [], 0, [], [], 0, false, [], 0⟩, .slice none 0 0), .bool false]) (by simp [results, Tryd.results43, go_sem, y0, y1, y2, y3, y4, y5, y6, y7, y8, y9, rwv]) rfl ?_
    exact ⟨⟨_, none, 0, 0, [], by rw [hr.out]; rfl, KOwn.nil _ _ _ _ _, fun R r e => (by rw [hr.out] at e; cases e)⟩, GZ.out, j, by omega, by rw [hr.out]; rfl, CZ.out⟩
  | ok v r =>
    rw [hP] at hj
    obtain rfl : r = s.drop j := hj
    obtain rfl : nm = v := str_inj (hx v _ hP)
    have HO2 := Lib.hid (show o = (if (kd : Int) = 0 then Ow.body0 s.length k nm (s.drop j) else Ow.body1 kd s.length k nm (s.drop j)).bind fun x r => (Ow.lit [10] r).bind fun _ r' => .ok x r' by rw [HO.out, hP]; rfl)
    clear HO hP hx
    obtain ⟨W3, hW3⟩ : ∃ X, X = w2.setCell ⟨w.heap.size + 1, 1, none⟩ (.string (str nm)) := ⟨_, rfl⟩
    rw [← hW3] at C3 G3 R3 Q3
    have hz3 := G3.out.size
    have hl3 := Q3.out.lt
    have S3 := Lib.hid (show SmAt W3 W3 b (w.heap.size + 1) s j ⟨kd, nm, k, [], [], 0, false, [], 0⟩ (.slice none 0 0) [] from ⟨C3.out, Q3.out, Gr2.refl _ _ _, KOwn.nil _ _ _ _ _, by omega, hl3⟩)
    clear C3 Q3
    by_cases h0 : kd = 0
    · subst h0
      have HO3 := Lib.hid (show o = (Ow.body0 s.length k nm (s.drop j)).bind fun x r => (Ow.lit [10] r).bind fun _ r' => .ok x r' from HO2.out)
      have hC := HSm.out (w.heap.size + 1) j W3 nm S3.out
      clear HO2 HSm HRm S3
      go_wp2_with fail
      rw [← hW3]
      clear hW3 z0 z1 z2 z3 z4 z5 z6 z7 z8 z9 zf zl
      refine hC.mono ?_
      obtain ⟨P, hP⟩ : ∃ P, P = Ow.body0 s.length k nm (s.drop j) := ⟨_, rfl⟩
      rw [← hP] at HO3 ⊢
      clear hP hC
      rintro e w4 ⟨x, A, n, cap, L, t, rfl, ⟨j4, hj4, hd4, S4⟩, hx1, hx2⟩
      have C4 := Lib.hid S4.C
      have Q4 := Lib.hid S4.R
      have R4 := Lib.hid (R3.out.gr2 S4.G (by omega) (by omega))
      have G4 := Lib.hid (S4.G.old G3.out (Nat.le_succ _))
      have T4 := Lib.hid S4.T
      have B4 : w.heap.size < W3.heap.size := by omega
      have HO5 : Hid (if t = true then (∀ u r, Ow.lit [10] (s.drop j4) = .ok u r → o = .ok x r ∧ L = x.tags) ∧ (∀ r, Ow.lit [10] (s.drop j4) = .fell r → o = .fell r) else o = .fell (s.drop j4)) := Lib.hid (by
        cases P with
        | fell r =>
          obtain rfl : r = s.drop j4 := hd4
          cases t with
          | false => exact HO3.out
          | true =>
            rw [if_pos rfl, Ow.take_no (hx2 _ rfl rfl)]
            exact ⟨fun u r e => (by cases e), fun r e => (by injection e with e1; rw [← e1]; exact HO3.out)⟩
        | ok R r =>
          obtain rfl : r = s.drop j4 := hd4
          obtain ⟨rfl, rfl, rfl⟩ := hx1 _ _ rfl
          rw [if_pos rfl]
          refine ⟨fun u r e => ⟨?_, rfl⟩, fun r e => ?_⟩
          · rw [HO3.out]; show (Ow.lit [10] (s.drop j4)).bind _ = _; rw [e]; rfl
          · rw [HO3.out]; show (Ow.lit [10] (s.drop j4)).bind _ = _; rw [e]; rfl)
      clear HO3 hx1 hx2 hd4 S4 R3 G3 P
      cases t with
      | false =>
        have hr := Lib.hid (show o = .fell (s.drop j4) from HO5.out)
        clear HO5
        go_upto_region 9 with fail
        refine wp_region_noPanic ?_
        refine wp_region_held_drew (S := fun X => Below 0 w4 X) (by kernel_rfl) ?_ (fun hHeld => ?_)
        · exact Below.drew (Below.refl _ _)
        have kB : Below 0 w4 w4.drew := Below.drew (Below.refl _ _)
        clear hHeld
        have kC := C4.out.drewN 1
        have kQ := Q4.out.grown (row := none) (sc_below (below_drewN (Below.refl _ _) 1) none) (by intro e; cases e)
        have kR := R4.out.grown (row := none) (sc_below (below_drewN (Below.refl _ _) 1) none) (by intro e; cases e)
        have kG := sc_drewN G4.out 1
        have kT := KOwn.below T4.out (below_drewN (Below.refl _ _) 1)
        change Cur w4.drew b s j4 at kC
        change RwAt w4.drew _ _ at kQ
        change RwAt w4.drew _ _ at kR
        change w.grownBy w4.drew _ at kG
        change KOwn _ _ _ w4.drew _ _ _ at kT
        obtain ⟨WD, hWD⟩ : ∃ X, X = w4.drew := ⟨_, rfl⟩
        rw [← hWD] at kB kC kQ kR kG kT ⊢
        clear hWD
        refine tk9 1 kB ?_
        refine tk9 2 kB ?_
        refine tk9 3 kB ?_ (v := undef) (hy := Or.inr ⟨by rfl, rfl⟩)
        refine tk9 4 kB ?_ (v := undef) (hy := Or.inr ⟨by rfl, rfl⟩)
        refine tk9 5 kB ?_
        refine wpAnyH_ready (rs := [0]) (by kernel_rfl) (by simp) ?_
        refine AllReadyH.cons (by simp only [List.getElem?_toArray, List.getElem?_cons_succ, List.getElem?_cons_zero]; rfl) (fun K hK => ?_) AllReadyH.nil
        have kQ2 := kQ
        obtain ⟨z0, z1, z2, z3, z4, z5, z6, z7, z8, z9, zf, zl⟩ := kQ2
        go_simp
        clear z0 z1 z2 z3 z4 z5 z6 z7 z8 z9 zf zl
        refine hK.out _ _ kB (fun hHeld => ?_)
        clear hK K hHeld
        (try simp only [Act.put, List.setIfInBounds_toArray, List.set_cons_zero, List.set_cons_succ])
        refine wpAnyH_ready (rs := [6]) (by kernel_rfl) (by simp) ?_
        refine AllReadyH.cons (by simp only [List.getElem?_toArray, List.getElem?_cons_succ, List.getElem?_cons_zero]; rfl) (fun K hK => ?_) AllReadyH.nil
        have kR2 := kR
        obtain ⟨y0, y1, y2, y3, y4, y5, y6, y7, y8, y9, yf, yl⟩ := kR2
        go_simp
        clear y0 y1 y2 y3 y4 y5 y6 y7 y8 y9 yf yl
        replace kR := kR.all x (.slice A n cap)
        replace kC := kC.ten (c := w.heap.size) (v0 := .int .i64 x.k) (v1 := .string (str x.n)) (v2 := .int .i64 (x.off : Nat)) (v3 := .slice A n cap) (v4 := .slice none 0 0) (v5 := .string (str x.text)) (v6 := .int .i64 (x.at_ : Nat)) (v7 := .bool x.td) (v8 := .string (str x.tm)) (v9 := .int .i64 (x.wh : Nat)) hblt
        replace kG := gr_ten (c := w.heap.size) (v0 := .int .i64 x.k) (v1 := .string (str x.n)) (v2 := .int .i64 (x.off : Nat)) (v3 := .slice A n cap) (v4 := .slice none 0 0) (v5 := .string (str x.text)) (v6 := .int .i64 (x.at_ : Nat)) (v7 := .bool x.td) (v8 := .string (str x.tm)) (v9 := .int .i64 (x.wh : Nat)) kG (Nat.le_refl _)
        replace kB := b0_grown kB (grown_ten (c := w.heap.size) (v0 := .int .i64 x.k) (v1 := .string (str x.n)) (v2 := .int .i64 (x.off : Nat)) (v3 := .slice A n cap) (v4 := .slice none 0 0) (v5 := .string (str x.text)) (v6 := .int .i64 (x.at_ : Nat)) (v7 := .bool x.td) (v8 := .string (str x.tm)) (v9 := .int .i64 (x.wh : Nat)))
        replace kT := ko_grown kT (grown_ten (c := w.heap.size) (v0 := .int .i64 x.k) (v1 := .string (str x.n)) (v2 := .int .i64 (x.off : Nat)) (v3 := .slice A n cap) (v4 := .slice none 0 0) (v5 := .string (str x.text)) (v6 := .int .i64 (x.at_ : Nat)) (v7 := .bool x.td) (v8 := .string (str x.tm)) (v9 := .int .i64 (x.wh : Nat))) B4
        obtain ⟨WZ, hWZ⟩ : ∃ X, X = ((((((((((WD.setCell ⟨w.heap.size, 0, none⟩ (.int .i64 x.k)).setCell ⟨w.heap.size, 1, none⟩ (.string (str x.n))).setCell ⟨w.heap.size, 2, none⟩ (.int .i64 (x.off : Nat))).setCell ⟨w.heap.size, 3, none⟩ (.slice A n cap)).setCell ⟨w.heap.size, 4, none⟩ (.slice none 0 0)).setCell ⟨w.heap.size, 5, none⟩ (.string (str x.text))).setCell ⟨w.heap.size, 6, none⟩ (.int .i64 (x.at_ : Nat))).setCell ⟨w.heap.size, 7, none⟩ (.bool x.td)).setCell ⟨w.heap.size, 8, none⟩ (.string (str x.tm))).setCell ⟨w.heap.size, 9, none⟩ (.int .i64 (x.wh : Nat))) := ⟨_, rfl⟩
        rw [← hWZ] at kR kC kG kB kT ⊢
        clear hWZ
        refine hK.out _ _ kB (fun hHeld => ?_)
        clear hK K hHeld
        (try simp only [Act.put, List.setIfInBounds_toArray, List.set_cons_zero, List.set_cons_succ])
        refine tk9 7 kB ?_
        refine wpAnyH_done (by kernel_rfl) ?_ _
        refine NoPanic.normal ?_
        have KC := Lib.hid kC
        have KG := Lib.hid kG
        have KR := Lib.hid kR
        have KT := Lib.hid (KOwn.mono kT (Nat.le_of_lt B4))
        clear kC kG kR kQ kT kB
        go_wp2
        obtain ⟨y0, y1, y2, y3, y4, y5, y6, y7, y8, y9, yf, yl⟩ := KR.out
        refine bodyPost_ret (v := .tuple #[rwv (x, .slice A n cap), .bool false]) (by simp [results, Tryd.results43, go_sem, y0, y1, y2, y3, y4, y5, y6, y7, y8, y9, rwv]) rfl ?_
        exact ⟨⟨x, A, n, cap, L, by rw [hr.out]; rfl, KT.out, fun R r e => (by rw [hr.out] at e; cases e)⟩, KG.out, j4, by omega, by rw [hr.out]; rfl, KC.out⟩
      | true =>
        have HO6 := Lib.hid (show (∀ u r, Ow.lit [10] (s.drop j4) = .ok u r → o = .ok x r ∧ L = x.tags) ∧ (∀ r, Ow.lit [10] (s.drop j4) = .fell r → o = .fell r) from HO5.out)
        clear HO5
        go_upto_region 9 with fail
        refine wp_region_noPanic ?_
        refine wp_region_held_drew (S := fun X => Below 0 w4 X) (by kernel_rfl) ?_ (fun hHeld => ?_)
        · exact Below.drew (Below.refl _ _)
        have kB : Below 0 w4 w4.drew := Below.drew (Below.refl _ _)
        clear hHeld
        have kC := C4.out.drewN 1
        have kQ := Q4.out.grown (row := none) (sc_below (below_drewN (Below.refl _ _) 1) none) (by intro e; cases e)
        have kR := R4.out.grown (row := none) (sc_below (below_drewN (Below.refl _ _) 1) none) (by intro e; cases e)
        have kG := sc_drewN G4.out 1
        have kT := KOwn.below T4.out (below_drewN (Below.refl _ _) 1)
        change Cur w4.drew b s j4 at kC
        change RwAt w4.drew _ _ at kQ
        change RwAt w4.drew _ _ at kR
        change w.grownBy w4.drew _ at kG
        change KOwn _ _ _ w4.drew _ _ _ at kT
        obtain ⟨WD, hWD⟩ : ∃ X, X = w4.drew := ⟨_, rfl⟩
        rw [← hWD] at kB kC kQ kR kG kT ⊢
        clear hWD
        refine tk9 1 kB ?_
        refine tk9 2 kB ?_
        refine tk9 3 kB ?_
        refine wpAnyH_ready (rs := [0, 4]) (by kernel_rfl) (by simp) ?_
        refine AllReadyH.cons (by simp only [List.getElem?_toArray, List.getElem?_cons_succ, List.getElem?_cons_zero]; rfl) (fun K hK => ?_) ?_
        · have kQ2 := kQ
          obtain ⟨z0, z1, z2, z3, z4, z5, z6, z7, z8, z9, zf, zl⟩ := kQ2
          go_simp
          clear z0 z1 z2 z3 z4 z5 z6 z7 z8 z9 zf zl
          refine hK.out _ _ kB (fun hHeld => ?_)
          clear hK K hHeld
          (try simp only [Act.put, List.setIfInBounds_toArray, List.set_cons_zero, List.set_cons_succ])
          refine wpAnyH_ready (rs := [4]) (by kernel_rfl) (by simp) ?_
          refine AllReadyH.cons (by simp only [List.getElem?_toArray, List.getElem?_cons_succ, List.getElem?_cons_zero]; rfl) (fun K hK => ?_) AllReadyH.nil
          try go_simp
          refine (HT.out 10 j4 _ kC).mono ?_
          rintro e w9 ⟨rfl, g9, j9, hj9, hd9, H9⟩
          replace kQ := kQ.grown g9 (by intro e; injection e; omega)
          replace kR := kR.grown g9 (by intro e; injection e; omega)
          replace kG := sc_trans kG g9
          replace kT := ko_grown kT g9 (by omega)
          replace kB := b0_grown kB g9
          replace kC := H9
          clear g9 H9
          refine hK.out _ _ kB (fun hHeld => ?_)
          clear hK K hHeld
          (try simp only [Act.put, List.setIfInBounds_toArray, List.set_cons_zero, List.set_cons_succ])
          refine tk9 5 kB ?_
          refine wpAnyH_ready (rs := [6]) (by kernel_rfl) (by simp) ?_
          refine AllReadyH.cons (by simp only [List.getElem?_toArray, List.getElem?_cons_succ, List.getElem?_cons_zero]; rfl) (fun K hK => ?_) AllReadyH.nil
          have kR2 := kR
          obtain ⟨y0, y1, y2, y3, y4, y5, y6, y7, y8, y9, yf, yl⟩ := kR2
          go_simp
          clear y0 y1 y2 y3 y4 y5 y6 y7 y8 y9 yf yl
          replace kR := kR.all x (.slice A n cap)
          replace kC := kC.ten (c := w.heap.size) (v0 := .int .i64 x.k) (v1 := .string (str x.n)) (v2 := .int .i64 (x.off : Nat)) (v3 := .slice A n cap) (v4 := .slice none 0 0) (v5 := .string (str x.text)) (v6 := .int .i64 (x.at_ : Nat)) (v7 := .bool x.td) (v8 := .string (str x.tm)) (v9 := .int .i64 (x.wh : Nat)) hblt
          replace kG := gr_ten (c := w.heap.size) (v0 := .int .i64 x.k) (v1 := .string (str x.n)) (v2 := .int .i64 (x.off : Nat)) (v3 := .slice A n cap) (v4 := .slice none 0 0) (v5 := .string (str x.text)) (v6 := .int .i64 (x.at_ : Nat)) (v7 := .bool x.td) (v8 := .string (str x.tm)) (v9 := .int .i64 (x.wh : Nat)) kG (Nat.le_refl _)
          replace kB := b0_grown kB (grown_ten (c := w.heap.size) (v0 := .int .i64 x.k) (v1 := .string (str x.n)) (v2 := .int .i64 (x.off : Nat)) (v3 := .slice A n cap) (v4 := .slice none 0 0) (v5 := .string (str x.text)) (v6 := .int .i64 (x.at_ : Nat)) (v7 := .bool x.td) (v8 := .string (str x.tm)) (v9 := .int .i64 (x.wh : Nat)))
          replace kT := ko_grown kT (grown_ten (c := w.heap.size) (v0 := .int .i64 x.k) (v1 := .string (str x.n)) (v2 := .int .i64 (x.off : Nat)) (v3 := .slice A n cap) (v4 := .slice none 0 0) (v5 := .string (str x.text)) (v6 := .int .i64 (x.at_ : Nat)) (v7 := .bool x.td) (v8 := .string (str x.tm)) (v9 := .int .i64 (x.wh : Nat))) B4
          obtain ⟨WZ, hWZ⟩ : ∃ X, X = ((((((((((w9.setCell ⟨w.heap.size, 0, none⟩ (.int .i64 x.k)).setCell ⟨w.heap.size, 1, none⟩ (.string (str x.n))).setCell ⟨w.heap.size, 2, none⟩ (.int .i64 (x.off : Nat))).setCell ⟨w.heap.size, 3, none⟩ (.slice A n cap)).setCell ⟨w.heap.size, 4, none⟩ (.slice none 0 0)).setCell ⟨w.heap.size, 5, none⟩ (.string (str x.text))).setCell ⟨w.heap.size, 6, none⟩ (.int .i64 (x.at_ : Nat))).setCell ⟨w.heap.size, 7, none⟩ (.bool x.td)).setCell ⟨w.heap.size, 8, none⟩ (.string (str x.tm))).setCell ⟨w.heap.size, 9, none⟩ (.int .i64 (x.wh : Nat))) := ⟨_, rfl⟩
          rw [← hWZ] at kR kC kG kB kT ⊢
          clear hWZ
          refine hK.out _ _ kB (fun hHeld => ?_)
          clear hK K hHeld
          (try simp only [Act.put, List.setIfInBounds_toArray, List.set_cons_zero, List.set_cons_succ])
          refine tk9 7 kB ?_
          refine wpAnyH_done (by kernel_rfl) ?_ _
          refine NoPanic.normal ?_
          have HD := Lib.hid hd9
          clear hd9
          have KC := Lib.hid kC
          have KG := Lib.hid kG
          have KR := Lib.hid kR
          have KT := Lib.hid (KOwn.mono kT (Nat.le_of_lt B4))
          clear kC kG kR kQ kT kB
          go_wp2
          obtain ⟨y0, y1, y2, y3, y4, y5, y6, y7, y8, y9, yf, yl⟩ := KR.out
          refine bodyPost_ret (v := .tuple #[rwv (x, .slice A n cap), .bool (Ow.okB (Ow.lit [10] (s.drop j4)))]) (by simp [results, Tryd.results43, go_sem, y0, y1, y2, y3, y4, y5, y6, y7, y8, y9, rwv]) rfl ?_
          cases hq : Ow.lit [10] (s.drop j4) with
          | fell r =>
            have hr := Lib.hid (HO6.out.2 r hq)
            have hd := HD.out
            rw [hq] at hd
            exact ⟨⟨x, A, n, cap, L, by rw [hr.out]; rfl, KT.out, fun R r e => (by rw [hr.out] at e; cases e)⟩, KG.out, j9, by omega, by rw [hr.out]; exact hd, KC.out⟩
          | ok u r =>
            have hr := Lib.hid (HO6.out.1 u r hq)
            have hd := HD.out
            rw [hq] at hd
            exact ⟨⟨x, A, n, cap, L, by rw [hr.out.1]; rfl, KT.out, fun R r e => (by rw [hr.out.1] at e; injection e with e1 e2; exact ⟨e1, by rw [← e1]; exact hr.out.2⟩)⟩, KG.out, j9, by omega, by rw [hr.out.1]; exact hd, KC.out⟩
        refine AllReadyH.cons (by simp only [List.getElem?_toArray, List.getElem?_cons_succ, List.getElem?_cons_zero]; rfl) (fun K hK => ?_) AllReadyH.nil
        try go_simp
        refine (HT.out 10 j4 _ kC).mono ?_
        rintro e w9 ⟨rfl, g9, j9, hj9, hd9, H9⟩
        replace kQ := kQ.grown g9 (by intro e; injection e; omega)
        replace kR := kR.grown g9 (by intro e; injection e; omega)
        replace kG := sc_trans kG g9
        replace kT := ko_grown kT g9 (by omega)
        replace kB := b0_grown kB g9
        replace kC := H9
        clear g9 H9
        refine hK.out _ _ kB (fun hHeld => ?_)
        clear hK K hHeld
        (try simp only [Act.put, List.setIfInBounds_toArray, List.set_cons_zero, List.set_cons_succ])
        refine tk9 5 kB ?_
        refine wpAnyH_ready (rs := [0]) (by kernel_rfl) (by simp) ?_
        refine AllReadyH.cons (by simp only [List.getElem?_toArray, List.getElem?_cons_succ, List.getElem?_cons_zero]; rfl) (fun K hK => ?_) AllReadyH.nil
        have kQ2 := kQ
        obtain ⟨z0, z1, z2, z3, z4, z5, z6, z7, z8, z9, zf, zl⟩ := kQ2
        go_simp
        clear z0 z1 z2 z3 z4 z5 z6 z7 z8 z9 zf zl
        refine hK.out _ _ kB (fun hHeld => ?_)
        clear hK K hHeld
        (try simp only [Act.put, List.setIfInBounds_toArray, List.set_cons_zero, List.set_cons_succ])
        refine wpAnyH_ready (rs := [6]) (by kernel_rfl) (by simp) ?_
        refine AllReadyH.cons (by simp only [List.getElem?_toArray, List.getElem?_cons_succ, List.getElem?_cons_zero]; rfl) (fun K hK => ?_) AllReadyH.nil
        have kR2 := kR
        obtain ⟨y0, y1, y2, y3, y4, y5, y6, y7, y8, y9, yf, yl⟩ := kR2
        go_simp
        clear y0 y1 y2 y3 y4 y5 y6 y7 y8 y9 yf yl
        replace kR := kR.all x (.slice A n cap)
        replace kC := kC.ten (c := w.heap.size) (v0 := .int .i64 x.k) (v1 := .string (str x.n)) (v2 := .int .i64 (x.off : Nat)) (v3 := .slice A n cap) (v4 := .slice none 0 0) (v5 := .string (str x.text)) (v6 := .int .i64 (x.at_ : Nat)) (v7 := .bool x.td) (v8 := .string (str x.tm)) (v9 := .int .i64 (x.wh : Nat)) hblt
        replace kG := gr_ten (c := w.heap.size) (v0 := .int .i64 x.k) (v1 := .string (str x.n)) (v2 := .int .i64 (x.off : Nat)) (v3 := .slice A n cap) (v4 := .slice none 0 0) (v5 := .string (str x.text)) (v6 := .int .i64 (x.at_ : Nat)) (v7 := .bool x.td) (v8 := .string (str x.tm)) (v9 := .int .i64 (x.wh : Nat)) kG (Nat.le_refl _)
        replace kB := b0_grown kB (grown_ten (c := w.heap.size) (v0 := .int .i64 x.k) (v1 := .string (str x.n)) (v2 := .int .i64 (x.off : Nat)) (v3 := .slice A n cap) (v4 := .slice none 0 0) (v5 := .string (str x.text)) (v6 := .int .i64 (x.at_ : Nat)) (v7 := .bool x.td) (v8 := .string (str x.tm)) (v9 := .int .i64 (x.wh : Nat)))
        replace kT := ko_grown kT (grown_ten (c := w.heap.size) (v0 := .int .i64 x.k) (v1 := .string (str x.n)) (v2 := .int .i64 (x.off : Nat)) (v3 := .slice A n cap) (v4 := .slice none 0 0) (v5 := .string (str x.text)) (v6 := .int .i64 (x.at_ : Nat)) (v7 := .bool x.td) (v8 := .string (str x.tm)) (v9 := .int .i64 (x.wh : Nat))) B4
        obtain ⟨WZ, hWZ⟩ : ∃ X, X = ((((((((((w9.setCell ⟨w.heap.size, 0, none⟩ (.int .i64 x.k)).setCell ⟨w.heap.size, 1, none⟩ (.string (str x.n))).setCell ⟨w.heap.size, 2, none⟩ (.int .i64 (x.off : Nat))).setCell ⟨w.heap.size, 3, none⟩ (.slice A n cap)).setCell ⟨w.heap.size, 4, none⟩ (.slice none 0 0)).setCell ⟨w.heap.size, 5, none⟩ (.string (str x.text))).setCell ⟨w.heap.size, 6, none⟩ (.int .i64 (x.at_ : Nat))).setCell ⟨w.heap.size, 7, none⟩ (.bool x.td)).setCell ⟨w.heap.size, 8, none⟩ (.string (str x.tm))).setCell ⟨w.heap.size, 9, none⟩ (.int .i64 (x.wh : Nat))) := ⟨_, rfl⟩
        rw [← hWZ] at kR kC kG kB kT ⊢
        clear hWZ
        refine hK.out _ _ kB (fun hHeld => ?_)
        clear hK K hHeld
        (try simp only [Act.put, List.setIfInBounds_toArray, List.set_cons_zero, List.set_cons_succ])
        refine tk9 7 kB ?_
        refine wpAnyH_done (by kernel_rfl) ?_ _
        refine NoPanic.normal ?_
        have HD := Lib.hid hd9
        clear hd9
        have KC := Lib.hid kC
        have KG := Lib.hid kG
        have KR := Lib.hid kR
        have KT := Lib.hid (KOwn.mono kT (Nat.le_of_lt B4))
        clear kC kG kR kQ kT kB
        go_wp2
        obtain ⟨y0, y1, y2, y3, y4, y5, y6, y7, y8, y9, yf, yl⟩ := KR.out
        refine bodyPost_ret (v := .tuple #[rwv (x, .slice A n cap), .bool (Ow.okB (Ow.lit [10] (s.drop j4)))]) (by simp [results, Tryd.results43, go_sem, y0, y1, y2, y3, y4, y5, y6, y7, y8, y9, rwv]) rfl ?_
        cases hq : Ow.lit [10] (s.drop j4) with
        | fell r =>
          have hr := Lib.hid (HO6.out.2 r hq)
          have hd := HD.out
          rw [hq] at hd
          exact ⟨⟨x, A, n, cap, L, by rw [hr.out]; rfl, KT.out, fun R r e => (by rw [hr.out] at e; cases e)⟩, KG.out, j9, by omega, by rw [hr.out]; exact hd, KC.out⟩
        | ok u r =>
          have hr := Lib.hid (HO6.out.1 u r hq)
          have hd := HD.out
          rw [hq] at hd
          exact ⟨⟨x, A, n, cap, L, by rw [hr.out.1]; rfl, KT.out, fun R r e => (by rw [hr.out.1] at e; injection e with e1 e2; exact ⟨e1, by rw [← e1]; exact hr.out.2⟩)⟩, KG.out, j9, by omega, by rw [hr.out.1]; exact hd, KC.out⟩
    · have d0 : ((kd : Nat) : Int) = 0 → False := by omega
      have e0 : (((kd : Nat) : Int) == 0) = false := beq_eq_false_iff_ne.2 (by omega)
      have HO3 := Lib.hid (show o = (Ow.body1 kd s.length k nm (s.drop j)).bind fun x r => (Ow.lit [10] r).bind fun _ r' => .ok x r' by have := HO2.out; rwa [if_neg d0] at this)
      have hC := HRm.out (w.heap.size + 1) j W3 nm (by omega) S3.out
      clear HO2 HSm HRm S3
      go_wp2_with fail
      rw [← hW3]
      clear hW3 z0 z1 z2 z3 z4 z5 z6 z7 z8 z9 zf zl
      refine hC.mono ?_
      obtain ⟨P, hP⟩ : ∃ P, P = Ow.body1 kd s.length k nm (s.drop j) := ⟨_, rfl⟩
      rw [← hP] at HO3 ⊢
      clear hP hC
      rintro e w4 ⟨x, A, n, cap, L, t, rfl, ⟨j4, hj4, hd4, S4⟩, hx1, hx2⟩
      have C4 := Lib.hid S4.C
      have Q4 := Lib.hid S4.R
      have R4 := Lib.hid (R3.out.gr2 S4.G (by omega) (by omega))
      have G4 := Lib.hid (S4.G.old G3.out (Nat.le_succ _))
      have T4 := Lib.hid S4.T
      have B4 : w.heap.size < W3.heap.size := by omega
      have HO5 : Hid (if t = true then (∀ u r, Ow.lit [10] (s.drop j4) = .ok u r → o = .ok x r ∧ L = x.tags) ∧ (∀ r, Ow.lit [10] (s.drop j4) = .fell r → o = .fell r) else o = .fell (s.drop j4)) := Lib.hid (by
        cases P with
        | fell r =>
          obtain rfl : r = s.drop j4 := hd4
          cases t with
          | false => exact HO3.out
          | true =>
            rw [if_pos rfl, Ow.take_no (hx2 _ rfl rfl)]
            exact ⟨fun u r e => (by cases e), fun r e => (by injection e with e1; rw [← e1]; exact HO3.out)⟩
        | ok R r =>
          obtain rfl : r = s.drop j4 := hd4
          obtain ⟨rfl, rfl, rfl⟩ := hx1 _ _ rfl
          rw [if_pos rfl]
          refine ⟨fun u r e => ⟨?_, rfl⟩, fun r e => ?_⟩
          · rw [HO3.out]; show (Ow.lit [10] (s.drop j4)).bind _ = _; rw [e]; rfl
          · rw [HO3.out]; show (Ow.lit [10] (s.drop j4)).bind _ = _; rw [e]; rfl)
      clear HO3 hx1 hx2 hd4 S4 R3 G3 P
      cases t with
      | false =>
        have hr := Lib.hid (show o = .fell (s.drop j4) from HO5.out)
        clear HO5
        go_upto_region 9 with fail
        refine wp_region_noPanic ?_
        refine wp_region_held_drew (S := fun X => Below 0 w4 X) (by kernel_rfl) ?_ (fun hHeld => ?_)
        · exact Below.drew (Below.refl _ _)
        have kB : Below 0 w4 w4.drew := Below.drew (Below.refl _ _)
        clear hHeld
        have kC := C4.out.drewN 1
        have kQ := Q4.out.grown (row := none) (sc_below (below_drewN (Below.refl _ _) 1) none) (by intro e; cases e)
        have kR := R4.out.grown (row := none) (sc_below (below_drewN (Below.refl _ _) 1) none) (by intro e; cases e)
        have kG := sc_drewN G4.out 1
        have kT := KOwn.below T4.out (below_drewN (Below.refl _ _) 1)
        change Cur w4.drew b s j4 at kC
        change RwAt w4.drew _ _ at kQ
        change RwAt w4.drew _ _ at kR
        change w.grownBy w4.drew _ at kG
        change KOwn _ _ _ w4.drew _ _ _ at kT
        obtain ⟨WD, hWD⟩ : ∃ X, X = w4.drew := ⟨_, rfl⟩
        rw [← hWD] at kB kC kQ kR kG kT ⊢
        clear hWD
        refine tk9 1 kB ?_
        refine tk9 2 kB ?_
        refine tk9 3 kB ?_ (v := undef) (hy := Or.inr ⟨by rfl, rfl⟩)
        refine tk9 4 kB ?_ (v := undef) (hy := Or.inr ⟨by rfl, rfl⟩)
        refine tk9 5 kB ?_
        refine wpAnyH_ready (rs := [0]) (by kernel_rfl) (by simp) ?_
        refine AllReadyH.cons (by simp only [List.getElem?_toArray, List.getElem?_cons_succ, List.getElem?_cons_zero]; rfl) (fun K hK => ?_) AllReadyH.nil
        have kQ2 := kQ
        obtain ⟨z0, z1, z2, z3, z4, z5, z6, z7, z8, z9, zf, zl⟩ := kQ2
        go_simp
        clear z0 z1 z2 z3 z4 z5 z6 z7 z8 z9 zf zl
        refine hK.out _ _ kB (fun hHeld => ?_)
        clear hK K hHeld
        (try simp only [Act.put, List.setIfInBounds_toArray, List.set_cons_zero, List.set_cons_succ])
        refine wpAnyH_ready (rs := [6]) (by kernel_rfl) (by simp) ?_
        refine AllReadyH.cons (by simp only [List.getElem?_toArray, List.getElem?_cons_succ, List.getElem?_cons_zero]; rfl) (fun K hK => ?_) AllReadyH.nil
        have kR2 := kR
        obtain ⟨y0, y1, y2, y3, y4, y5, y6, y7, y8, y9, yf, yl⟩ := kR2
        go_simp
        clear y0 y1 y2 y3 y4 y5 y6 y7 y8 y9 yf yl
        replace kR := kR.all x (.slice A n cap)
        replace kC := kC.ten (c := w.heap.size) (v0 := .int .i64 x.k) (v1 := .string (str x.n)) (v2 := .int .i64 (x.off : Nat)) (v3 := .slice A n cap) (v4 := .slice none 0 0) (v5 := .string (str x.text)) (v6 := .int .i64 (x.at_ : Nat)) (v7 := .bool x.td) (v8 := .string (str x.tm)) (v9 := .int .i64 (x.wh : Nat)) hblt
        replace kG := gr_ten (c := w.heap.size) (v0 := .int .i64 x.k) (v1 := .string (str x.n)) (v2 := .int .i64 (x.off : Nat)) (v3 := .slice A n cap) (v4 := .slice none 0 0) (v5 := .string (str x.text)) (v6 := .int .i64 (x.at_ : Nat)) (v7 := .bool x.td) (v8 := .string (str x.tm)) (v9 := .int .i64 (x.wh : Nat)) kG (Nat.le_refl _)
        replace kB := b0_grown kB (grown_ten (c := w.heap.size) (v0 := .int .i64 x.k) (v1 := .string (str x.n)) (v2 := .int .i64 (x.off : Nat)) (v3 := .slice A n cap) (v4 := .slice none 0 0) (v5 := .string (str x.text)) (v6 := .int .i64 (x.at_ : Nat)) (v7 := .bool x.td) (v8 := .string (str x.tm)) (v9 := .int .i64 (x.wh : Nat)))
        replace kT := ko_grown kT (grown_ten (c := w.heap.size) (v0 := .int .i64 x.k) (v1 := .string (str x.n)) (v2 := .int .i64 (x.off : Nat)) (v3 := .slice A n cap) (v4 := .slice none 0 0) (v5 := .string (str x.text)) (v6 := .int .i64 (x.at_ : Nat)) (v7 := .bool x.td) (v8 := .string (str x.tm)) (v9 := .int .i64 (x.wh : Nat))) B4
        obtain ⟨WZ, hWZ⟩ : ∃ X, X = ((((((((((WD.setCell ⟨w.heap.size, 0, none⟩ (.int .i64 x.k)).setCell ⟨w.heap.size, 1, none⟩ (.string (str x.n))).setCell ⟨w.heap.size, 2, none⟩ (.int .i64 (x.off : Nat))).setCell ⟨w.heap.size, 3, none⟩ (.slice A n cap)).setCell ⟨w.heap.size, 4, none⟩ (.slice none 0 0)).setCell ⟨w.heap.size, 5, none⟩ (.string (str x.text))).setCell ⟨w.heap.size, 6, none⟩ (.int .i64 (x.at_ : Nat))).setCell ⟨w.heap.size, 7, none⟩ (.bool x.td)).setCell ⟨w.heap.size, 8, none⟩ (.string (str x.tm))).setCell ⟨w.heap.size, 9, none⟩ (.int .i64 (x.wh : Nat))) := ⟨_, rfl⟩
        rw [← hWZ] at kR kC kG kB kT ⊢
        clear hWZ
        refine hK.out _ _ kB (fun hHeld => ?_)
        clear hK K hHeld
        (try simp only [Act.put, List.setIfInBounds_toArray, List.set_cons_zero, List.set_cons_succ])
        refine tk9 7 kB ?_
        refine wpAnyH_done (by kernel_rfl) ?_ _
        refine NoPanic.normal ?_
        have KC := Lib.hid kC
        have KG := Lib.hid kG
        have KR := Lib.hid kR
        have KT := Lib.hid (KOwn.mono kT (Nat.le_of_lt B4))
        clear kC kG kR kQ kT kB
        go_wp2
        obtain ⟨y0, y1, y2, y3, y4, y5, y6, y7, y8, y9, yf, yl⟩ := KR.out
        refine bodyPost_ret (v := .tuple #[rwv (x, .slice A n cap), .bool false]) (by simp [results, Tryd.results43, go_sem, y0, y1, y2, y3, y4, y5, y6, y7, y8, y9, rwv]) rfl ?_
        exact ⟨⟨x, A, n, cap, L, by rw [hr.out]; rfl, KT.out, fun R r e => (by rw [hr.out] at e; cases e)⟩, KG.out, j4, by omega, by rw [hr.out]; rfl, KC.out⟩
      | true =>
        have HO6 := Lib.hid (show (∀ u r, Ow.lit [10] (s.drop j4) = .ok u r → o = .ok x r ∧ L = x.tags) ∧ (∀ r, Ow.lit [10] (s.drop j4) = .fell r → o = .fell r) from HO5.out)
        clear HO5
        go_upto_region 9 with fail
        refine wp_region_noPanic ?_
        refine wp_region_held_drew (S := fun X => Below 0 w4 X) (by kernel_rfl) ?_ (fun hHeld => ?_)
        · exact Below.drew (Below.refl _ _)
        have kB : Below 0 w4 w4.drew := Below.drew (Below.refl _ _)
        clear hHeld
        have kC := C4.out.drewN 1
        have kQ := Q4.out.grown (row := none) (sc_below (below_drewN (Below.refl _ _) 1) none) (by intro e; cases e)
        have kR := R4.out.grown (row := none) (sc_below (below_drewN (Below.refl _ _) 1) none) (by intro e; cases e)
        have kG := sc_drewN G4.out 1
        have kT := KOwn.below T4.out (below_drewN (Below.refl _ _) 1)
        change Cur w4.drew b s j4 at kC
        change RwAt w4.drew _ _ at kQ
        change RwAt w4.drew _ _ at kR
        change w.grownBy w4.drew _ at kG
        change KOwn _ _ _ w4.drew _ _ _ at kT
        obtain ⟨WD, hWD⟩ : ∃ X, X = w4.drew := ⟨_, rfl⟩
        rw [← hWD] at kB kC kQ kR kG kT ⊢
        clear hWD
        refine tk9 1 kB ?_
        refine tk9 2 kB ?_
        refine tk9 3 kB ?_
        refine wpAnyH_ready (rs := [0, 4]) (by kernel_rfl) (by simp) ?_
        refine AllReadyH.cons (by simp only [List.getElem?_toArray, List.getElem?_cons_succ, List.getElem?_cons_zero]; rfl) (fun K hK => ?_) ?_
        · have kQ2 := kQ
          obtain ⟨z0, z1, z2, z3, z4, z5, z6, z7, z8, z9, zf, zl⟩ := kQ2
          go_simp
          clear z0 z1 z2 z3 z4 z5 z6 z7 z8 z9 zf zl
          refine hK.out _ _ kB (fun hHeld => ?_)
          clear hK K hHeld
          (try simp only [Act.put, List.setIfInBounds_toArray, List.set_cons_zero, List.set_cons_succ])
          refine wpAnyH_ready (rs := [4]) (by kernel_rfl) (by simp) ?_
          refine AllReadyH.cons (by simp only [List.getElem?_toArray, List.getElem?_cons_succ, List.getElem?_cons_zero]; rfl) (fun K hK => ?_) AllReadyH.nil
          try go_simp
          refine (HT.out 10 j4 _ kC).mono ?_
          rintro e w9 ⟨rfl, g9, j9, hj9, hd9, H9⟩
          replace kQ := kQ.grown g9 (by intro e; injection e; omega)
          replace kR := kR.grown g9 (by intro e; injection e; omega)
          replace kG := sc_trans kG g9
          replace kT := ko_grown kT g9 (by omega)
          replace kB := b0_grown kB g9
          replace kC := H9
          clear g9 H9
          refine hK.out _ _ kB (fun hHeld => ?_)
          clear hK K hHeld
          (try simp only [Act.put, List.setIfInBounds_toArray, List.set_cons_zero, List.set_cons_succ])
          refine tk9 5 kB ?_
          refine wpAnyH_ready (rs := [6]) (by kernel_rfl) (by simp) ?_
          refine AllReadyH.cons (by simp only [List.getElem?_toArray, List.getElem?_cons_succ, List.getElem?_cons_zero]; rfl) (fun K hK => ?_) AllReadyH.nil
          have kR2 := kR
          obtain ⟨y0, y1, y2, y3, y4, y5, y6, y7, y8, y9, yf, yl⟩ := kR2
          go_simp
          clear y0 y1 y2 y3 y4 y5 y6 y7 y8 y9 yf yl
          replace kR := kR.all x (.slice A n cap)
          replace kC := kC.ten (c := w.heap.size) (v0 := .int .i64 x.k) (v1 := .string (str x.n)) (v2 := .int .i64 (x.off : Nat)) (v3 := .slice A n cap) (v4 := .slice none 0 0) (v5 := .string (str x.text)) (v6 := .int .i64 (x.at_ : Nat)) (v7 := .bool x.td) (v8 := .string (str x.tm)) (v9 := .int .i64 (x.wh : Nat)) hblt
          replace kG := gr_ten (c := w.heap.size) (v0 := .int .i64 x.k) (v1 := .string (str x.n)) (v2 := .int .i64 (x.off : Nat)) (v3 := .slice A n cap) (v4 := .slice none 0 0) (v5 := .string (str x.text)) (v6 := .int .i64 (x.at_ : Nat)) (v7 := .bool x.td) (v8 := .string (str x.tm)) (v9 := .int .i64 (x.wh : Nat)) kG (Nat.le_refl _)
          replace kB := b0_grown kB (grown_ten (c := w.heap.size) (v0 := .int .i64 x.k) (v1 := .string (str x.n)) (v2 := .int .i64 (x.off : Nat)) (v3 := .slice A n cap) (v4 := .slice none 0 0) (v5 := .string (str x.text)) (v6 := .int .i64 (x.at_ : Nat)) (v7 := .bool x.td) (v8 := .string (str x.tm)) (v9 := .int .i64 (x.wh : Nat)))
          replace kT := ko_grown kT (grown_ten (c := w.heap.size) (v0 := .int .i64 x.k) (v1 := .string (str x.n)) (v2 := .int .i64 (x.off : Nat)) (v3 := .slice A n cap) (v4 := .slice none 0 0) (v5 := .string (str x.text)) (v6 := .int .i64 (x.at_ : Nat)) (v7 := .bool x.td) (v8 := .string (str x.tm)) (v9 := .int .i64 (x.wh : Nat))) B4
          obtain ⟨WZ, hWZ⟩ : ∃ X, X = ((((((((((w9.setCell ⟨w.heap.size, 0, none⟩ (.int .i64 x.k)).setCell ⟨w.heap.size, 1, none⟩ (.string (str x.n))).setCell ⟨w.heap.size, 2, none⟩ (.int .i64 (x.off : Nat))).setCell ⟨w.heap.size, 3, none⟩ (.slice A n cap)).setCell ⟨w.heap.size, 4, none⟩ (.slice none 0 0)).setCell ⟨w.heap.size, 5, none⟩ (.string (str x.text))).setCell ⟨w.heap.size, 6, none⟩ (.int .i64 (x.at_ : Nat))).setCell ⟨w.heap.size, 7, none⟩ (.bool x.td)).setCell ⟨w.heap.size, 8, none⟩ (.string (str x.tm))).setCell ⟨w.heap.size, 9, none⟩ (.int .i64 (x.wh : Nat))) := ⟨_, rfl⟩
          rw [← hWZ] at kR kC kG kB kT ⊢
          clear hWZ
          refine hK.out _ _ kB (fun hHeld => ?_)
          clear hK K hHeld
          (try simp only [Act.put, List.setIfInBounds_toArray, List.set_cons_zero, List.set_cons_succ])
          refine tk9 7 kB ?_
          refine wpAnyH_done (by kernel_rfl) ?_ _
          refine NoPanic.normal ?_
          have HD := Lib.hid hd9
          clear hd9
          have KC := Lib.hid kC
          have KG := Lib.hid kG
          have KR := Lib.hid kR
          have KT := Lib.hid (KOwn.mono kT (Nat.le_of_lt B4))
          clear kC kG kR kQ kT kB
          go_wp2
          obtain ⟨y0, y1, y2, y3, y4, y5, y6, y7, y8, y9, yf, yl⟩ := KR.out
          refine bodyPost_ret (v := .tuple #[rwv (x, .slice A n cap), .bool (Ow.okB (Ow.lit [10] (s.drop j4)))]) (by simp [results, Tryd.results43, go_sem, y0, y1, y2, y3, y4, y5, y6, y7, y8, y9, rwv]) rfl ?_
          cases hq : Ow.lit [10] (s.drop j4) with
          | fell r =>
            have hr := Lib.hid (HO6.out.2 r hq)
            have hd := HD.out
            rw [hq] at hd
            exact ⟨⟨x, A, n, cap, L, by rw [hr.out]; rfl, KT.out, fun R r e => (by rw [hr.out] at e; cases e)⟩, KG.out, j9, by omega, by rw [hr.out]; exact hd, KC.out⟩
          | ok u r =>
            have hr := Lib.hid (HO6.out.1 u r hq)
            have hd := HD.out
            rw [hq] at hd
            exact ⟨⟨x, A, n, cap, L, by rw [hr.out.1]; rfl, KT.out, fun R r e => (by rw [hr.out.1] at e; injection e with e1 e2; exact ⟨e1, by rw [← e1]; exact hr.out.2⟩)⟩, KG.out, j9, by omega, by rw [hr.out.1]; exact hd, KC.out⟩
        refine AllReadyH.cons (by simp only [List.getElem?_toArray, List.getElem?_cons_succ, List.getElem?_cons_zero]; rfl) (fun K hK => ?_) AllReadyH.nil
        try go_simp
        refine (HT.out 10 j4 _ kC).mono ?_
        rintro e w9 ⟨rfl, g9, j9, hj9, hd9, H9⟩
        replace kQ := kQ.grown g9 (by intro e; injection e; omega)
        replace kR := kR.grown g9 (by intro e; injection e; omega)
        replace kG := sc_trans kG g9
        replace kT := ko_grown kT g9 (by omega)
        replace kB := b0_grown kB g9
        replace kC := H9
        clear g9 H9
        refine hK.out _ _ kB (fun hHeld => ?_)
        clear hK K hHeld
        (try simp only [Act.put, List.setIfInBounds_toArray, List.set_cons_zero, List.set_cons_succ])
        refine tk9 5 kB ?_
        refine wpAnyH_ready (rs := [0]) (by kernel_rfl) (by simp) ?_
        refine AllReadyH.cons (by simp only [List.getElem?_toArray, List.getElem?_cons_succ, List.getElem?_cons_zero]; rfl) (fun K hK => ?_) AllReadyH.nil
        have kQ2 := kQ
        obtain ⟨z0, z1, z2, z3, z4, z5, z6, z7, z8, z9, zf, zl⟩ := kQ2
        go_simp
        clear z0 z1 z2 z3 z4 z5 z6 z7 z8 z9 zf zl
        refine hK.out _ _ kB (fun hHeld => ?_)
        clear hK K hHeld
        (try simp only [Act.put, List.setIfInBounds_toArray, List.set_cons_zero, List.set_cons_succ])
        refine wpAnyH_ready (rs := [6]) (by kernel_rfl) (by simp) ?_
        refine AllReadyH.cons (by simp only [List.getElem?_toArray, List.getElem?_cons_succ, List.getElem?_cons_zero]; rfl) (fun K hK => ?_) AllReadyH.nil
        have kR2 := kR
        obtain ⟨y0, y1, y2, y3, y4, y5, y6, y7, y8, y9, yf, yl⟩ := kR2
        go_simp
        clear y0 y1 y2 y3 y4 y5 y6 y7 y8 y9 yf yl
        replace kR := kR.all x (.slice A n cap)
        replace kC := kC.ten (c := w.heap.size) (v0 := .int .i64 x.k) (v1 := .string (str x.n)) (v2 := .int .i64 (x.off : Nat)) (v3 := .slice A n cap) (v4 := .slice none 0 0) (v5 := .string (str x.text)) (v6 := .int .i64 (x.at_ : Nat)) (v7 := .bool x.td) (v8 := .string (str x.tm)) (v9 := .int .i64 (x.wh : Nat)) hblt
        replace kG := gr_ten (c := w.heap.size) (v0 := .int .i64 x.k) (v1 := .string (str x.n)) (v2 := .int .i64 (x.off : Nat)) (v3 := .slice A n cap) (v4 := .slice none 0 0) (v5 := .string (str x.text)) (v6 := .int .i64 (x.at_ : Nat)) (v7 := .bool x.td) (v8 := .string (str x.tm)) (v9 := .int .i64 (x.wh : Nat)) kG (Nat.le_refl _)
        replace kB := b0_grown kB (grown_ten (c := w.heap.size) (v0 := .int .i64 x.k) (v1 := .string (str x.n)) (v2 := .int .i64 (x.off : Nat)) (v3 := .slice A n cap) (v4 := .slice none 0 0) (v5 := .string (str x.text)) (v6 := .int .i64 (x.at_ : Nat)) (v7 := .bool x.td) (v8 := .string (str x.tm)) (v9 := .int .i64 (x.wh : Nat)))
        replace kT := ko_grown kT (grown_ten (c := w.heap.size) (v0 := .int .i64 x.k) (v1 := .string (str x.n)) (v2 := .int .i64 (x.off : Nat)) (v3 := .slice A n cap) (v4 := .slice none 0 0) (v5 := .string (str x.text)) (v6 := .int .i64 (x.at_ : Nat)) (v7 := .bool x.td) (v8 := .string (str x.tm)) (v9 := .int .i64 (x.wh : Nat))) B4
        obtain ⟨WZ, hWZ⟩ : ∃ X, X = ((((((((((w9.setCell ⟨w.heap.size, 0, none⟩ (.int .i64 x.k)).setCell ⟨w.heap.size, 1, none⟩ (.string (str x.n))).setCell ⟨w.heap.size, 2, none⟩ (.int .i64 (x.off : Nat))).setCell ⟨w.heap.size, 3, none⟩ (.slice A n cap)).setCell ⟨w.heap.size, 4, none⟩ (.slice none 0 0)).setCell ⟨w.heap.size, 5, none⟩ (.string (str x.text))).setCell ⟨w.heap.size, 6, none⟩ (.int .i64 (x.at_ : Nat))).setCell ⟨w.heap.size, 7, none⟩ (.bool x.td)).setCell ⟨w.heap.size, 8, none⟩ (.string (str x.tm))).setCell ⟨w.heap.size, 9, none⟩ (.int .i64 (x.wh : Nat))) := ⟨_, rfl⟩
        rw [← hWZ] at kR kC kG kB kT ⊢
        clear hWZ
        refine hK.out _ _ kB (fun hHeld => ?_)
        clear hK K hHeld
        (try simp only [Act.put, List.setIfInBounds_toArray, List.set_cons_zero, List.set_cons_succ])
        refine tk9 7 kB ?_
        refine wpAnyH_done (by kernel_rfl) ?_ _
        refine NoPanic.normal ?_
        have HD := Lib.hid hd9
        clear hd9
        have KC := Lib.hid kC
        have KG := Lib.hid kG
        have KR := Lib.hid kR
        have KT := Lib.hid (KOwn.mono kT (Nat.le_of_lt B4))
        clear kC kG kR kQ kT kB
        go_wp2
        obtain ⟨y0, y1, y2, y3, y4, y5, y6, y7, y8, y9, yf, yl⟩ := KR.out
        refine bodyPost_ret (v := .tuple #[rwv (x, .slice A n cap), .bool (Ow.okB (Ow.lit [10] (s.drop j4)))]) (by simp [results, Tryd.results43, go_sem, y0, y1, y2, y3, y4, y5, y6, y7, y8, y9, rwv]) rfl ?_
        cases hq : Ow.lit [10] (s.drop j4) with
        | fell r =>
          have hr := Lib.hid (HO6.out.2 r hq)
          have hd := HD.out
          rw [hq] at hd
          exact ⟨⟨x, A, n, cap, L, by rw [hr.out]; rfl, KT.out, fun R r e => (by rw [hr.out] at e; cases e)⟩, KG.out, j9, by omega, by rw [hr.out]; exact hd, KC.out⟩
        | ok u r =>
          have hr := Lib.hid (HO6.out.1 u r hq)
          have hd := HD.out
          rw [hq] at hd
          exact ⟨⟨x, A, n, cap, L, by rw [hr.out.1]; rfl, KT.out, fun R r e => (by rw [hr.out.1] at e; injection e with e1 e2; exact ⟨e1, by rw [← e1]; exact hr.out.2⟩)⟩, KG.out, j9, by omega, by rw [hr.out.1]; exact hd, KC.out⟩

end Go.Proofs.YthniemoganoapaaDoor
