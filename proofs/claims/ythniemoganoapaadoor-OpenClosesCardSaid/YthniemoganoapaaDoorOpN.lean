/- The walk of the laws' known (layer 17). -/
import Derived.Test.YthniemoganoapaaDoorOpM
import Derived.Test.YthniemoganoapaaDoorOpK
set_option maxRecDepth 100000
set_option linter.unusedVariables false
set_option linter.unusedSimpArgs false
namespace Go.Proofs.YthniemoganoapaaDoor
open Go.RowKit
attribute [local go_sem ↓] Go.wp_at_zero Go.wp_at_succ

namespace Ow
def knT : List UInt8 := [35, 32, 84, 89, 80, 69, 32, 97, 32, 99, 111, 117, 110, 116, 101, 114, 10, 97, 95, 116, 111, 116, 97, 108, 123, 120, 61, 34, 92, 110, 34, 125, 32, 49, 32, 50, 46, 53, 10, 35, 32, 69, 79, 70]
def vals (o : Out (List Rw)) : List Rw := match o with | .fell _ => [] | .ok v _ => v
theorem kn_rows {M : List Rw} {r : List UInt8} (h : rows knT.length knT = .ok M r) : ∃ r0 r1 t, M = [r0, r1] ∧ r0.k = 1 ∧ r0.text = [99, 111, 117, 110, 116, 101, 114] ∧ r0.at_ = 9 ∧ r1.n = [97, 95, 116, 111, 116, 97, 108] ∧ r1.off = 17 ∧ r1.tags = [t] ∧ t.v = [10] ∧ t.at_ = 28 ∧ r1.text = [49] ∧ r1.td = true ∧ r1.tm = [50, 46, 53] := by
  have e0 : (vals (rows knT.length knT)).map (fun r => (r.k, r.text, r.at_)) = [(1, [99, 111, 117, 110, 116, 101, 114], 9), (0, [49], 33)] := by decide +kernel
  have e1 : (vals (rows knT.length knT)).map (fun r => (r.n, r.off, r.td, r.tm)) = [([97], 7, false, []), ([97, 95, 116, 111, 116, 97, 108], 17, true, [50, 46, 53])] := by decide +kernel
  have e2 : (vals (rows knT.length knT)).map (fun r => r.tags.map fun t => (t.v, t.at_)) = [[], [([10], 28)]] := by decide +kernel
  rw [h] at e0 e1 e2
  simp only [vals] at e0 e1 e2
  cases M with
  | nil => simp at e0
  | cons r0 M =>
  cases M with
  | nil => simp at e0
  | cons r1 M =>
  cases M with
  | cons r2 M => simp at e0
  | nil =>
    simp only [List.map_cons, List.map_nil, List.cons.injEq, Prod.mk.injEq, and_true] at e0 e1 e2
    obtain ⟨a0, a1⟩ := e0
    obtain ⟨b0, b1⟩ := e1
    obtain ⟨c0, c1⟩ := e2
    obtain ⟨k1, n1, o1, g1, x1, y1, td1, tm1, w1⟩ := r1
    cases g1 with
    | nil => simp at c1
    | cons t g1 =>
    cases g1 with
    | cons t2 g1 => simp at c1
    | nil =>
      simp only [List.map_cons, List.map_nil, List.cons.injEq, Prod.mk.injEq, and_true] at c1
      exact ⟨r0, _, t, rfl, a0.1, a0.2.1, a0.2.2, b1.1, b1.2.1, rfl, c1.1, c1.2, a1.2.1, b1.2.2.1, b1.2.2.2⟩
theorem kn_bad : bad knT = -1 ∧ bad [97, 32, 49, 10] = 4 ∧ bad [97, 32, 49] = 3 ∧ bad [35, 32, 88] = 2 := by decide +kernel
theorem kn_quote : quote true [97, 34, 10] = [97, 92, 34, 92, 110] ∧ quote false [34] = [34] := by decide +kernel
end Ow

theorem tr17 {w a b : World} (h : Below w.heap.size w a) (k : Below a.heap.size a b) : Below w.heap.size w b := h.trans (k.mono h.size)
theorem own_two {w : World} {B : Nat} {A : Option Addr} {n cap : Nat} {x0 x1 : Rs} (h : KOwn encRw 42 10 w B (.slice A n cap) [x0, x1]) : ∃ g, A = some ⟨g, 0, none⟩ ∧ n = 2 ∧ g < w.heap.size ∧
    (∀ j u, (encRw x0)[j]? = some u → w.cell? ⟨g, j, none⟩ = some u) ∧ (∀ j u, (encRw x1)[j]? = some u → w.cell? ⟨g, 10 + j, none⟩ = some u) := by
  have h0 := h
  obtain ⟨hl, h⟩ := h
  rcases h with ⟨hv, hn⟩ | ⟨g, cap', cur, hv, hg, hb, hr⟩
  · simp at hn
  · injection hv with h1 h2 h3
    subst h1; subst h2; subst h3
    have hx : [x0, x1].flatMap encRw = encRw x0 ++ encRw x1 := by simp
    refine ⟨g, rfl, rfl, (Array.getElem?_eq_some_iff.1 hb).1, fun j u hu => ?_, fun j u hu => ?_⟩
    · have hj : j < 10 := by have := (List.getElem?_eq_some_iff.1 hu).1; rwa [encRw_len] at this
      have := World.ownsRow.cellAt h0 j (by show j < 2 * 10; omega)
      rw [this, hx, List.getElem?_append_left (by rw [encRw_len]; exact hj)]; exact hu
    · have hj : j < 10 := by have := (List.getElem?_eq_some_iff.1 hu).1; rwa [encRw_len] at this
      have := World.ownsRow.cellAt h0 (10 + j) (by show 10 + j < 2 * 10; omega)
      rw [this, hx, List.getElem?_append_right (by rw [encRw_len]; omega), encRw_len, show 10 + j - 10 = j by omega]; exact hu
theorem own_one {w : World} {B : Nat} {v : Value} {t : Ow.Tg} (h : TgOwn w B v [t]) : ∃ g cap, v = .slice (some ⟨g, 0, none⟩) 1 cap ∧ g < w.heap.size ∧ ∀ j u, (encTg t)[j]? = some u → w.cell? ⟨g, j, none⟩ = some u := by
  have h0 := h
  obtain ⟨hl, h⟩ := h
  rcases h with ⟨hv, hn⟩ | ⟨g, cap', cur, hv, hg, hb, hr⟩
  · simp at hn
  · subst hv
    refine ⟨g, cap', rfl, (Array.getElem?_eq_some_iff.1 hb).1, fun j u hu => ?_⟩
    have hj : j < 4 := by have := (List.getElem?_eq_some_iff.1 hu).1; rwa [encTg_len] at this
    have := World.ownsRow.cellAt h0 j (by show j < 1 * 4; omega)
    rw [this, show [t].flatMap encTg = encTg t by simp]; exact hu

set_option maxHeartbeats 16000000 in
theorem oknown_calls (w : World) (hT : OwT w w.heap.size) : Calls Tryd.prog 8 #[] w fun e w' => e = .returned (.bool true) ∧ Below w.heap.size w w' := by
  have HT := Lib.hid hT
  have HK := Lib.hid (fun W (hb : Below w.heap.size w W) => (OwT.mk (HT.out.kept (fun j hj => hb.block j hj)).cls (HT.out.kept (fun j hj => hb.block j hj)).sts (HT.out.kept (fun j hj => hb.block j hj)).shp (HT.out.kept (fun j hj => hb.block j hj)).mks (Nat.lt_of_lt_of_le HT.out.l0 hb.size) (Nat.lt_of_lt_of_le HT.out.l1 hb.size) (Nat.lt_of_lt_of_le HT.out.l2 hb.size) (Nat.lt_of_lt_of_le HT.out.l3 hb.size) : OwT W W.heap.size))
  obtain ⟨q1, q2, q3, q4⟩ := Ow.kn_bad
  obtain ⟨q5, q6⟩ := Ow.kn_quote
  have hR1 := rows0_calls Ow.knT w hT (by decide)
  have HR2 := Lib.hid (fun W (hb : Below w.heap.size w W) => rows0_calls [97, 32, 49, 10] W (HK.out W hb) (by decide))
  have HB1 := Lib.hid (fun W (hb : Below w.heap.size w W) => bad0_calls Ow.knT W (HK.out W hb) (by decide))
  have HB2 := Lib.hid (fun W (hb : Below w.heap.size w W) => bad0_calls [97, 32, 49] W (HK.out W hb) (by decide))
  have HB3 := Lib.hid (fun W (hb : Below w.heap.size w W) => bad0_calls [35, 32, 88] W (HK.out W hb) (by decide))
  have HQ := Lib.hid (fun W (hb : Below w.heap.size w W) => oquote_calls [97, 34, 10] W (HK.out W hb) (by decide))
  have HH := Lib.hid (fun W (hb : Below w.heap.size w W) => ohelp_calls [34] W (HK.out W hb) (by decide))
  rw [q1] at HB1
  rw [q3] at HB2
  rw [q4] at HB3
  rw [q5] at HQ
  rw [q6] at HH
  unfold RowsP at hR1 HR2
  rw [q1] at hR1
  rw [q2] at HR2
  clear hT q1 q2 q3 q4 q5 q6
  go_enter Tryd.func8, Tryd.ntmps8
  go_wp2_with fail
  refine hR1.mono ?_; rintro e w1 ⟨A, n, cap, L, rfl, b1, hK, hTg, hyes, -⟩
  obtain ⟨r, hM⟩ := hyes (by decide)
  obtain ⟨r0, r1, t, hM2, k0, k1, k2, k3, k4, k5, k6, k7, k8, k9, k10⟩ := Ow.kn_rows hM
  obtain ⟨x0, x1, rfl⟩ : ∃ x0 x1, L = [x0, x1] := by
    match L, hM2 with
    | [x0, x1], _ => exact ⟨x0, x1, rfl⟩
  injection hM2 with e0 e1
  injection e1 with e1 _
  have e0 : x0.1 = r0 := e0
  have e1 : x1.1 = r1 := e1
  have hT1 := hTg x1 (by simp)
  rw [e1, k5] at hT1
  have B1 := Lib.hid b1
  have HK1 := Lib.hid hK
  have HT1 := Lib.hid hT1
  clear hR1 hyes hM hTg hK hT1 b1
  go_wp2_with fail
  refine (HR2.out _ B1.out).mono ?_; rintro e w2 ⟨A2, n2, cap2, L2, rfl, b2, -, -, -, -⟩
  have B2 := Lib.hid (tr17 B1.out b2)
  obtain ⟨g, rfl, rfl, hg, hz0, hz1⟩ := own_two (KOwn.below HK1.out b2)
  obtain ⟨gt, cpt, hvt, hgt, hzt⟩ := own_one (KOwn.below HT1.out b2)
  have y00 := hz0 0 _ rfl
  have y05 := hz0 5 _ rfl
  have y06 := hz0 6 _ rfl
  have y10 := hz1 0 _ rfl
  have y11 := hz1 1 _ rfl
  have y12 := hz1 2 _ rfl
  have y13 := hz1 3 _ rfl
  have y14 := hz1 4 _ rfl
  have y15 := hz1 5 _ rfl
  have y16 := hz1 6 _ rfl
  have y17 := hz1 7 _ rfl
  have y18 := hz1 8 _ rfl
  have y19 := hz1 9 _ rfl
  have t1 := hzt 1 _ rfl
  have t3 := hzt 3 _ rfl
  rw [e0, k0] at y00
  rw [e0, k1] at y05
  rw [e0, k2] at y06
  rw [e1, k3] at y11
  rw [e1, k4] at y12
  rw [hvt] at y13
  rw [e1, k8] at y15
  rw [e1, k9] at y17
  rw [e1, k10] at y18
  rw [k6] at t1
  rw [k7] at t3
  clear HR2 B1 HK1 HT1 b2 hz0 hz1 hzt
  clear HT HK
  obtain ⟨W3, hW3⟩ : ∃ X, X = w2.alloc (.cells #[.int .i64 r1.k, .string (str [97, 95, 116, 111, 116, 97, 108]), .int .i64 17, .slice (some ⟨gt, 0, none⟩) 1 cpt, .slice none 0 0, .string (str [49]), .int .i64 (r1.at_ : Nat), .bool true, .string (str [50, 46, 53]), .int .i64 (r1.wh : Nat)] 42) := ⟨_, rfl⟩
  have b3 : Below w2.heap.size w2 W3 := by rw [hW3]; exact (Below.refl _ _).alloc (Nat.le_refl _) _
  have B3 := Lib.hid (tr17 B2.out b3)
  have hc4 : ∀ i, i < 10 → W3.cell? ⟨w2.heap.size, i, none⟩ = (#[.int .i64 r1.k, .string (str [97, 95, 116, 111, 116, 97, 108]), .int .i64 17, .slice (some ⟨gt, 0, none⟩) 1 cpt, .slice none 0 0, .string (str [49]), .int .i64 (r1.at_ : Nat), .bool true, .string (str [50, 46, 53]), .int .i64 (r1.wh : Nat)] : Array Value)[i]? := by
    intro i hi; rw [hW3, cell_of_row _ _ _ _ _ _ (heap_alloc_new w2 _)]
  have hl3 : w2.heap.size < W3.heap.size := by rw [hW3, al_size]; omega
  have HC := Lib.hid (fun W (hb : Below W3.heap.size W3 W) =>
    show W.cell? ⟨g, 0, none⟩ = some (.int .i64 1) ∧ W.cell? ⟨g, 5, none⟩ = some (.string (str [99, 111, 117, 110, 116, 101, 114])) ∧ W.cell? ⟨g, 6, none⟩ = some (.int .i64 (9 : Nat)) ∧
      W.cell? ⟨w2.heap.size, 1, none⟩ = some (.string (str [97, 95, 116, 111, 116, 97, 108])) ∧ W.cell? ⟨w2.heap.size, 2, none⟩ = some (.int .i64 17) ∧ W.cell? ⟨w2.heap.size, 3, none⟩ = some (.slice (some ⟨gt, 0, none⟩) 1 cpt) ∧ W.cell? ⟨w2.heap.size, 5, none⟩ = some (.string (str [49])) ∧ W.cell? ⟨w2.heap.size, 7, none⟩ = some (.bool true) ∧ W.cell? ⟨w2.heap.size, 8, none⟩ = some (.string (str [50, 46, 53])) ∧
      W.cell? ⟨gt, 1, none⟩ = some (.string (str [10])) ∧ W.cell? ⟨gt, 3, none⟩ = some (.int .i64 (28 : Nat)) from
    have hg3 : g < W3.heap.size := by omega
    have hgt3 : gt < W3.heap.size := by omega
    ⟨(hb.cell (p := ⟨g, 0, none⟩) hg3).trans ((b3.cell (p := ⟨g, 0, none⟩) hg).trans y00), (hb.cell (p := ⟨g, 5, none⟩) hg3).trans ((b3.cell (p := ⟨g, 5, none⟩) hg).trans y05), (hb.cell (p := ⟨g, 6, none⟩) hg3).trans ((b3.cell (p := ⟨g, 6, none⟩) hg).trans y06),
      (hb.cell (p := ⟨w2.heap.size, 1, none⟩) hl3).trans (hc4 1 (by omega)), (hb.cell (p := ⟨w2.heap.size, 2, none⟩) hl3).trans (hc4 2 (by omega)), (hb.cell (p := ⟨w2.heap.size, 3, none⟩) hl3).trans (hc4 3 (by omega)), (hb.cell (p := ⟨w2.heap.size, 5, none⟩) hl3).trans (hc4 5 (by omega)), (hb.cell (p := ⟨w2.heap.size, 7, none⟩) hl3).trans (hc4 7 (by omega)), (hb.cell (p := ⟨w2.heap.size, 8, none⟩) hl3).trans (hc4 8 (by omega)),
      (hb.cell (p := ⟨gt, 1, none⟩) hgt3).trans ((b3.cell (p := ⟨gt, 1, none⟩) hgt).trans t1), (hb.cell (p := ⟨gt, 3, none⟩) hgt3).trans ((b3.cell (p := ⟨gt, 3, none⟩) hgt).trans t3)⟩)
  clear hc4
  go_wp2_with fail
  rw [← hW3]
  clear hW3 y00 y05 y06 y10 y11 y12 y13 y14 y15 y16 y17 y18 y19 t1 t3
  refine (HB1.out _ B3.out).mono ?_; rintro e w4 ⟨rfl, b4⟩
  have B4 := Lib.hid (tr17 B3.out b4)
  go_wp2_with fail
  refine (HB2.out _ B4.out).mono ?_; rintro e w5 ⟨rfl, b5⟩
  have B5 := Lib.hid (tr17 B4.out b5)
  go_wp2_with fail
  refine (HB3.out _ B5.out).mono ?_; rintro e w6 ⟨rfl, b6⟩
  have B6 := Lib.hid (tr17 B5.out b6)
  obtain ⟨c0, c1, c2, c3, c4, c5, c6, c7, c8, c9, c10⟩ := HC.out w6 (tr17 (tr17 b4 b5) b6)
  clear b4 b5 b6 HC B3 B4 B5 HB1 HB2 HB3 b3
  go_wp2_with fail
  refine (HQ.out _ B6.out).mono ?_; rintro e w7 ⟨rfl, b7⟩
  have B7 := Lib.hid (tr17 B6.out b7)
  clear b7 c0 c1 c2 c3 c4 c5 c6 c7 c8 c9 c10
  go_wp2_with fail
  refine (HH.out _ B7.out).mono ?_; rintro e w8 ⟨rfl, b8⟩
  have B8 := Lib.hid (tr17 B7.out b8)
  clear b8
  go_wp2
  go_ret
  exact ⟨rfl, B8.out⟩

end Go.Proofs.YthniemoganoapaaDoor
