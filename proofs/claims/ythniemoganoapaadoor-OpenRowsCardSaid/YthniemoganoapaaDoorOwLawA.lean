/- The walk of the law OpenRows (layer 17). -/
import Derived.Test.YthniemoganoapaaDoorOpO
import Derived.Test.YthniemoganoapaaDoorHpOwA
set_option maxRecDepth 100000
set_option linter.unusedVariables false
set_option linter.unusedSimpArgs false
namespace Go.Proofs.YthniemoganoapaaDoor
open Go.RowKit
attribute [local go_sem ↓] Go.wp_at_zero Go.wp_at_succ

theorem std_calls {s t : List UInt8} {k : Nat} (h : Ow.Std s k t) (hs : s.length ≤ 1900) (w : World) :
    Calls Tryd.prog 18 #[.string (str s), .int .i64 (k : Nat), .string (str t)] w fun e w' => e = .returned (.bool true) ∧ w = w' := by
  have h1 := h.1
  have h2 := h.2.length_le
  rw [List.length_drop] at h2
  have := stands_calls s t k w (by omega) (by unfold maxLen; omega) (by omega)
  rw [stB_yes h] at this
  exact this
namespace Ow
theorem std_len {s t : List UInt8} {k : Nat} (h : Std s k t) : k + t.length ≤ s.length := by
  have h1 := h.1
  have h2 := h.2.length_le
  rw [List.length_drop] at h2
  omega
theorem tags_at {s : List UInt8} {a j : Nat} {l : List Tg} {t : Tg} (h : TagsOk s a (l.drop j)) (ht : l[j]? = some t) : TagOk s a t ∧ TagsOk s t.at_ (l.drop (j + 1)) ∧ tagsEnd a (l.drop j) = tagsEnd t.at_ (l.drop (j + 1)) := by
  obtain ⟨hj, rfl⟩ := List.getElem?_eq_some_iff.1 ht
  rw [List.drop_eq_getElem_cons hj] at h ⊢
  exact ⟨h.1, h.2, rfl⟩
theorem rows_at {s : List UInt8} {a j : Nat} {l : List Rw} {x : Rw} (h : RowsOk s a (l.drop j)) (ht : l[j]? = some x) : RowOk s a x ∧ RowsOk s (max x.at_ x.wh) (l.drop (j + 1)) ∧ rowsEnd a (l.drop j) = rowsEnd (max x.at_ x.wh) (l.drop (j + 1)) := by
  obtain ⟨hj, rfl⟩ := List.getElem?_eq_some_iff.1 ht
  rw [List.drop_eq_getElem_cons hj] at h ⊢
  exact ⟨h.1, h.2, rfl⟩
end Ow
/-- a row's cells, at its place in a slice -/
theorem krow_cells {α : Type} {enc : α → List Value} {k : Nat} {w : World} {A : Option Addr} {n cap : Nat} {l : List α} (h : KRow enc k w (.slice A n cap) l) {i : Nat} {x : α} (hx : l[i]? = some x) :
    ∃ b off, A = some ⟨b, off, none⟩ ∧ b < w.heap.size ∧ ∀ j u, (enc x)[j]? = some u → w.cell? ⟨b, off + i * k + j, none⟩ = some u := by
  obtain ⟨A', cap', he, -, -, -, hr⟩ := h
  obtain ⟨rfl, -, rfl⟩ := Value.slice.inj he
  obtain ⟨b, off, hA, hb, hc⟩ := hr (by have := (List.getElem?_eq_some_iff.1 hx).1; omega)
  exact ⟨b, off, hA, hb, fun j u hu => hc i x hx j u hu⟩
theorem kown_len {α : Type} {enc : α → List Value} {el k base : Nat} {w : World} {A : Option Addr} {n cap : Nat} {l : List α} (hk : ∀ x, (enc x).length = k) (h : KOwn enc el k w base (.slice A n cap) l) : n = l.length := by
  obtain ⟨A', cap', he, _⟩ := KOwn.row hk h
  exact (Value.slice.inj he).2.1

set_option maxHeartbeats 32000000 in
theorem orows_walk (s : List UInt8) (w : World) (hm : s.length ≤ maxLen) (hT : OwT w w.heap.size) :
    Calls Tryd.prog 7 #[.string (str s)] w fun e w' => e = .returned (.bool true) ∧ Below w.heap.size w w' := by
  have hsz := str_size s
  have hk0 := oknown_calls w hT
  have HT := Lib.hid (fun W (hb : Below w.heap.size w W) => hT.up hb)
  unfold maxLen at hm
  by_cases h1 : s.length ≤ 1500
  rotate_left
  · have d1 : decide ((1500 : Int) < (s.length : Int)) = true := decide_eq_true (by omega)
    have d1' : decide (1500 < s.length) = true := decide_eq_true (by omega)
    go_enter Tryd.func7, Tryd.ntmps7
    go_wp2_with fail
    refine hk0.mono ?_; rintro e w1 ⟨rfl, b1⟩
    go_wp2
    go_ret
    exact ⟨rfl, b1⟩
  have d1 : decide ((1500 : Int) < (s.length : Int)) = false := decide_eq_false (by omega)
  have d1' : decide (1500 < s.length) = false := decide_eq_false (by omega)
  have HB0 := Lib.hid (fun W (hb : Below w.heap.size w W) => bad0_calls s W (HT.out W hb) (by omega))
  have HR0 := Lib.hid (fun W (hb : Below w.heap.size w W) => rows0_calls s W (HT.out W hb) (by omega))
  have HSt := Lib.hid (fun k t W (h : Ow.Std s k t) => std_calls h (by omega) W)
  have HOk := Lib.hid (fun M r (h : Ow.rows s.length s = .ok M r) => Ow.rows_ok h)
  unfold RowsP at HR0
  clear hT
  obtain ⟨K, hK⟩ : ∃ K, K = Ow.bad s := ⟨_, rfl⟩
  rw [← hK] at HB0 HR0
  clear hK
  by_cases h0 : 0 ≤ K
  · have d3 : decide (K < 0) = false := decide_eq_false (by omega)
    have d4 : decide (0 ≤ K) = true := decide_eq_true h0
    rw [d3] at HR0
    clear HOk HSt
    go_enter Tryd.func7, Tryd.ntmps7
    go_wp2_with fail
    refine hk0.mono ?_; rintro e w1 ⟨rfl, b1⟩
    go_wp2_with fail
    refine (HR0.out w1 b1).mono ?_; rintro e w2 ⟨A, n, cap, L, rfl, b2, hK, -, -, hno⟩
    obtain rfl := kown_len encRw_len hK
    obtain rfl := hno h0
    have B2 := Lib.hid (tr17 b1 b2)
    clear b1 b2 hK hno
    go_wp2_with fail
    refine (HB0.out w2 B2.out).mono ?_; rintro e w3 ⟨rfl, b3⟩
    have B3 := Lib.hid (tr17 B2.out b3)
    clear b3 B2
    go_wp2
    go_ret
    exact ⟨rfl, B3.out⟩
  have d3 : decide (K < 0) = true := decide_eq_true (by omega)
  rw [d3] at HR0
  go_enter Tryd.func7, Tryd.ntmps7
  go_wp2_with fail
  refine hk0.mono ?_; rintro e w1 ⟨rfl, b1⟩
  go_wp2_with fail
  refine (HR0.out w1 b1).mono ?_; rintro e w2 ⟨A, n, cap, L, rfl, b2, hKo, hTg, hyes, -⟩
  obtain rfl := kown_len encRw_len hKo
  obtain ⟨r, hM⟩ := hyes (by omega)
  obtain ⟨hok, hend⟩ := HOk.out _ _ hM
  have HKo := Lib.hid (KOwn.row encRw_len hKo)
  have HTg := Lib.hid (fun x hx => KOwn.row encTg_len (hTg x hx))
  have B2 := Lib.hid (tr17 b1 b2)
  have HOK := Lib.hid (show Ow.RowsOk s 0 ((L.map (·.1)).drop 0) from hok)
  have HEN := Lib.hid (show Ow.rowsEnd 0 ((L.map (·.1)).drop 0) ≤ s.length from hend)
  have hL2 : L.length ≤ 9223372036854775807 := by
    obtain ⟨A', cap', he, h3, h4, _⟩ := HKo.out
    unfold maxLen at h4; omega
  clear hok hend hM hyes hTg hKo HR0 HB0 HOk hk0 HT
  clear b1 b2
  go_wp2_with fail
  go_loopw [6, 5] (fun v u wr => ∃ i a : Nat, i ≤ L.length ∧ v = .int .i64 i ∧ u = .int .i64 a ∧ Hid (Below w2.heap.size w2 wr) ∧ Hid (Ow.RowsOk s a ((L.map (·.1)).drop i)) ∧ Hid (Ow.rowsEnd a ((L.map (·.1)).drop i) ≤ s.length)) (fun v _ _ => L.length - (intOf v).toNat)
  case atStart => exact ⟨0, 0, Nat.zero_le _, rfl, rfl, Lib.hid (Below.refl _ _), HOK, HEN⟩
  case round =>
    clear HOK HEN
    obtain ⟨i, a, hi, rfl, rfl, HB, HOK, HEN⟩ := hrel
    rename World => wo
    by_cases hin : i < L.length
    rotate_left
    · have d5 : decide ((i : Int) < (L.length : Int)) = false := decide_eq_false (by omega)
      have d5' : decide (i < L.length) = false := decide_eq_false hin
      have hae : a ≤ s.length := by
        have := HEN.out
        rw [List.drop_eq_nil_iff.2 (by rw [List.length_map]; omega)] at this
        exact this
      have d6 : decide ((a : Int) ≤ (s.length : Int)) = true := decide_eq_true (by omega)
      have d6' : decide (a ≤ s.length) = true := decide_eq_true hae
      go_wp2
      go_ret
      exact ⟨rfl, tr17 B2.out HB.out⟩
    have d5 : decide ((i : Int) < (L.length : Int)) = true := decide_eq_true (by omega)
    have d5' : decide (i < L.length) = true := decide_eq_true hin
    have hwi : IntKind.i64.wrap ((i : Int) + 1) = ((i + 1 : Nat) : Int) := by rw [show (i : Int) + 1 = ((i + 1 : Nat) : Int) by omega]; exact IntWalk.i64_in _ (by omega)
    obtain ⟨⟨r, v⟩, hx⟩ : ∃ x, L[i]? = some x := ⟨_, List.getElem?_eq_getElem hin⟩
    obtain ⟨hrow, hrest, hend⟩ := Ow.rows_at (x := r) (l := L.map (·.1)) HOK.out (by rw [List.getElem?_map, hx]; rfl)
    have HRest := Lib.hid hrest
    have HEnd := Lib.hid (show Ow.rowsEnd (max r.at_ r.wh) ((L.map (·.1)).drop (i + 1)) ≤ s.length by rw [← hend]; exact HEN.out)
    have hTr := HTg.out (r, v) (List.mem_of_getElem? hx)
    obtain ⟨A2, cap2, hv2, hlc2, hcm2, -, -⟩ := id hTr
    dsimp only at hv2 hTr hlc2
    subst hv2
    have HTr := Lib.hid hTr
    have htl : r.tags.length ≤ 9223372036854775807 := by unfold maxLen at hcm2; omega
    obtain ⟨b, off, rfl, hlt, hc⟩ := krow_cells (KRow.below HKo.out HB.out) hx
    have z0 : wo.cell? ⟨b, off + i * 10, none⟩ = some (.int .i64 r.k) := hc 0 _ rfl
    have z1 : wo.cell? ⟨b, off + i * 10 + 1, none⟩ = some (.string (str r.n)) := hc 1 _ rfl
    have z2 : wo.cell? ⟨b, off + i * 10 + 2, none⟩ = some (.int .i64 (r.off : Nat)) := hc 2 _ rfl
    have z3 : wo.cell? ⟨b, off + i * 10 + 3, none⟩ = some (.slice A2 r.tags.length cap2) := hc 3 _ rfl
    have z4 : wo.cell? ⟨b, off + i * 10 + 4, none⟩ = some (.slice none 0 0) := hc 4 _ rfl
    have z5 : wo.cell? ⟨b, off + i * 10 + 5, none⟩ = some (.string (str r.text)) := hc 5 _ rfl
    have z6 : wo.cell? ⟨b, off + i * 10 + 6, none⟩ = some (.int .i64 (r.at_ : Nat)) := hc 6 _ rfl
    have z7 : wo.cell? ⟨b, off + i * 10 + 7, none⟩ = some (.bool r.td) := hc 7 _ rfl
    have z8 : wo.cell? ⟨b, off + i * 10 + 8, none⟩ = some (.string (str r.tm)) := hc 8 _ rfl
    have z9 : wo.cell? ⟨b, off + i * 10 + 9, none⟩ = some (.int .i64 (r.wh : Nat)) := hc 9 _ rfl
    obtain ⟨W3, hW3⟩ : ∃ X, X = wo.alloc (.cells #[.int .i64 r.k, .string (str r.n), .int .i64 (r.off : Nat), .slice A2 r.tags.length cap2, .slice none 0 0, .string (str r.text), .int .i64 (r.at_ : Nat), .bool r.td, .string (str r.tm), .int .i64 (r.wh : Nat)] 42) := ⟨_, rfl⟩
    have b3 : Below wo.heap.size wo W3 := by rw [hW3]; exact (Below.refl _ _).alloc (Nat.le_refl _) _
    have B3 := Lib.hid (tr17 HB.out b3)
    have hc4 : ∀ i, i < 10 → W3.cell? ⟨wo.heap.size, i, none⟩ = (#[.int .i64 r.k, .string (str r.n), .int .i64 (r.off : Nat), .slice A2 r.tags.length cap2, .slice none 0 0, .string (str r.text), .int .i64 (r.at_ : Nat), .bool r.td, .string (str r.tm), .int .i64 (r.wh : Nat)] : Array Value)[i]? := by
      intro i hi; rw [hW3, cell_of_row _ _ _ _ _ _ (heap_alloc_new wo _)]
    have x0 : W3.cell? ⟨wo.heap.size, 0, none⟩ = some (.int .i64 r.k) := hc4 0 (by omega)
    have x1 : W3.cell? ⟨wo.heap.size, 1, none⟩ = some (.string (str r.n)) := hc4 1 (by omega)
    have x2 : W3.cell? ⟨wo.heap.size, 2, none⟩ = some (.int .i64 (r.off : Nat)) := hc4 2 (by omega)
    have x3 : W3.cell? ⟨wo.heap.size, 3, none⟩ = some (.slice A2 r.tags.length cap2) := hc4 3 (by omega)
    have x4 : W3.cell? ⟨wo.heap.size, 4, none⟩ = some (.slice none 0 0) := hc4 4 (by omega)
    have x5 : W3.cell? ⟨wo.heap.size, 5, none⟩ = some (.string (str r.text)) := hc4 5 (by omega)
    have x6 : W3.cell? ⟨wo.heap.size, 6, none⟩ = some (.int .i64 (r.at_ : Nat)) := hc4 6 (by omega)
    have x7 : W3.cell? ⟨wo.heap.size, 7, none⟩ = some (.bool r.td) := hc4 7 (by omega)
    have x8 : W3.cell? ⟨wo.heap.size, 8, none⟩ = some (.string (str r.tm)) := hc4 8 (by omega)
    have x9 : W3.cell? ⟨wo.heap.size, 9, none⟩ = some (.int .i64 (r.wh : Nat)) := hc4 9 (by omega)
    have hl3 : wo.heap.size < W3.heap.size := by rw [hW3, al_size]; omega
    have HL := Lib.hid (fun W (hb : Below W3.heap.size W3 W) =>
      show W.cell? ⟨wo.heap.size, 0, none⟩ = some (.int .i64 r.k) ∧ W.cell? ⟨wo.heap.size, 1, none⟩ = some (.string (str r.n)) ∧ W.cell? ⟨wo.heap.size, 2, none⟩ = some (.int .i64 (r.off : Nat)) ∧ W.cell? ⟨wo.heap.size, 3, none⟩ = some (.slice A2 r.tags.length cap2) ∧ W.cell? ⟨wo.heap.size, 4, none⟩ = some (.slice none 0 0) ∧ W.cell? ⟨wo.heap.size, 5, none⟩ = some (.string (str r.text)) ∧ W.cell? ⟨wo.heap.size, 6, none⟩ = some (.int .i64 (r.at_ : Nat)) ∧ W.cell? ⟨wo.heap.size, 7, none⟩ = some (.bool r.td) ∧ W.cell? ⟨wo.heap.size, 8, none⟩ = some (.string (str r.tm)) ∧ W.cell? ⟨wo.heap.size, 9, none⟩ = some (.int .i64 (r.wh : Nat)) from
      ⟨(hb.cell (p := ⟨wo.heap.size, 0, none⟩) hl3).trans x0, (hb.cell (p := ⟨wo.heap.size, 1, none⟩) hl3).trans x1, (hb.cell (p := ⟨wo.heap.size, 2, none⟩) hl3).trans x2, (hb.cell (p := ⟨wo.heap.size, 3, none⟩) hl3).trans x3, (hb.cell (p := ⟨wo.heap.size, 4, none⟩) hl3).trans x4, (hb.cell (p := ⟨wo.heap.size, 5, none⟩) hl3).trans x5, (hb.cell (p := ⟨wo.heap.size, 6, none⟩) hl3).trans x6, (hb.cell (p := ⟨wo.heap.size, 7, none⟩) hl3).trans x7, (hb.cell (p := ⟨wo.heap.size, 8, none⟩) hl3).trans x8, (hb.cell (p := ⟨wo.heap.size, 9, none⟩) hl3).trans x9⟩)
    have HZ3 := Lib.hid (show wo.alloc (.cells #[.int .i64 r.k, .string (str r.n), .int .i64 (r.off : Nat), .slice A2 r.tags.length cap2, .slice none 0 0, .string (str r.text), .int .i64 (r.at_ : Nat), .bool r.td, .string (str r.tm), .int .i64 (r.wh : Nat)] 42) = W3 from hW3.symm)
    clear hW3
    clear hc4 x0 x1 x2 x3 x4 x5 x6 x7 x8 x9 hc b3 hTr hlt HOK HEN hend hrest hx hlc2 hcm2
    obtain ⟨g1, g2, g3, g4, g5, g6, g7, g8⟩ := hrow
    have gl := Ow.std_len g2
    have G2 := Lib.hid g2
    have G4 := Lib.hid g4
    have G5 := Lib.hid g5
    have G7 := Lib.hid g7
    have G8 := Lib.hid g8
    clear g2 g4 g5 g7 g8
    have hns := str_size r.n
    obtain ⟨e, he⟩ : ∃ e, e = r.off + r.n.length := ⟨_, rfl⟩
    rw [← he] at g3 g6 G5
    have hwe : IntKind.i64.wrap ((r.off : Int) + (r.n.length : Int)) = (e : Int) := by rw [show (r.off : Int) + (r.n.length : Int) = (e : Int) by omega]; exact IntWalk.i64_in _ (by omega)
    have k1 : decide ((r.off : Int) < (a : Int)) = false := decide_eq_false (by omega)
    have k1' : decide (r.off < a) = false := decide_eq_false (by omega)
    have k2 : decide ((r.at_ : Int) < (e : Int)) = false := decide_eq_false (by omega)
    have k2' : decide (r.at_ < e) = false := decide_eq_false (by omega)
    have hS1 := Lib.hid (fun W => HSt.out r.off r.n W G2.out)
    have HTXT : Hid (r.k ≠ 3 → ∀ W, Calls Tryd.prog 18 #[.string (str s), .int .i64 (r.at_ : Nat), .string (str r.text)] W fun e w' => e = .returned (.bool true) ∧ W = w') := Lib.hid (fun h W => HSt.out r.at_ r.text W (G4.out h))
    clear he
    obtain ⟨q3, hq3⟩ : ∃ q, q = (r.k != 3) := ⟨_, rfl⟩
    have e3 : (r.k != 3) = q3 := hq3.symm
    have HQ3 := Lib.hid (show q3 = true → r.k ≠ 3 by intro h; rw [hq3] at h; simpa using h)
    clear hq3
    cases q3 with
    | false =>
      clear HTXT HQ3
      go_wp2_with fail
      rw [HZ3.out]
      clear z0 z1 z2 z3 z4 z5 z6 z7 z8 z9
      obtain ⟨z0, z1, z2, z3, z4, z5, z6, z7, z8, z9⟩ := HL.out W3 (Below.refl _ _)
      refine (hS1.out _).mono ?_; rintro e w4 ⟨rfl, rfl⟩
      go_wp2_with fail
      clear z0 z1 z2 z3 z4 z5 z6 z7 z8 z9
      go_loopw [8, 5] (fun v u wx => ∃ j c : Nat, j ≤ r.tags.length ∧ v = .int .i64 j ∧ u = .int .i64 c ∧ Hid (Below W3.heap.size W3 wx) ∧ Hid (Ow.TagsOk s c (r.tags.drop j)) ∧ Hid (Ow.tagsEnd c (r.tags.drop j) = Ow.tagsEnd e r.tags)) (fun v _ _ => r.tags.length - (intOf v).toNat)
      case atStart => exact ⟨0, e, Nat.zero_le _, rfl, rfl, Lib.hid (Below.refl _ _), G5, Lib.hid rfl⟩
      case round =>
        clear G5
        obtain ⟨j, c, hj, rfl, rfl, HX, HTO, HTE⟩ := hrel
        obtain ⟨z0, z1, z2, z3, z4, z5, z6, z7, z8, z9⟩ := HL.out wr HX.out
        by_cases hjn : j < r.tags.length
        · have q5 : decide ((j : Int) < (r.tags.length : Int)) = true := decide_eq_true (by omega)
          have q5' : decide (j < r.tags.length) = true := decide_eq_true hjn
          have hwj : IntKind.i64.wrap ((j : Int) + 1) = ((j + 1 : Nat) : Int) := by rw [show (j : Int) + 1 = ((j + 1 : Nat) : Int) by omega]; exact IntWalk.i64_in _ (by omega)
          obtain ⟨t, ht⟩ : ∃ t, r.tags[j]? = some t := ⟨_, List.getElem?_eq_getElem hjn⟩
          obtain ⟨htok, htr, hte⟩ := Ow.tags_at HTO.out ht
          have HTR := Lib.hid htr
          have HTE2 := Lib.hid (hte.symm.trans HTE.out)
          obtain ⟨t1, t2, t3, t4⟩ := htok
          have tl := Ow.std_len t2
          have T2 := Lib.hid t2
          have T3 := Lib.hid t3
          obtain ⟨bt, ot, rfl, hltt, hct⟩ := krow_cells (KRow.below (KRow.below HTr.out B3.out) HX.out) ht
          have y0 : wr.cell? ⟨bt, ot + j * 4, none⟩ = some (.string (str t.n)) := hct 0 _ rfl
          have y1 : wr.cell? ⟨bt, ot + j * 4 + 1, none⟩ = some (.string (str t.v)) := hct 1 _ rfl
          have y2 : wr.cell? ⟨bt, ot + j * 4 + 2, none⟩ = some (.int .i64 (t.off : Nat)) := hct 2 _ rfl
          have y3 : wr.cell? ⟨bt, ot + j * 4 + 3, none⟩ = some (.int .i64 (t.at_ : Nat)) := hct 3 _ rfl
          clear htr hte t2 t3 ht HTO HTE hct hltt
          have htns := str_size t.n
          obtain ⟨te, hte⟩ : ∃ x, x = t.off + t.n.length := ⟨_, rfl⟩
          rw [← hte] at T3 t4
          have hwt : IntKind.i64.wrap ((t.off : Int) + (t.n.length : Int)) = (te : Int) := by rw [show (t.off : Int) + (t.n.length : Int) = (te : Int) by omega]; exact IntWalk.i64_in _ (by omega)
          have hwt2 : IntKind.i64.wrap ((te : Int) + 2) = (t.at_ : Int) := by rw [show (te : Int) + 2 = (t.at_ : Int) by omega]; exact IntWalk.i64_in _ (by omega)
          have n1 : decide ((t.off : Int) ≤ (c : Int)) = false := decide_eq_false (by omega)
          have n1' : decide (t.off ≤ c) = false := decide_eq_false (by omega)
          have n2 : ((t.at_ : Int) != (t.at_ : Int)) = false := by simp
          have hT1 := Lib.hid (fun W => HSt.out t.off t.n W T2.out)
          have hT2 := Lib.hid (fun W => HSt.out te [61, 34] W T3.out)
          have HXn := Lib.hid (tr17 HX.out ((Below.refl wr.heap.size wr).alloc (Nat.le_refl _) (.cells #[.string (str t.n), .string (str t.v), .int .i64 (t.off : Nat), .int .i64 (t.at_ : Nat)] 44)))
          clear t1 t4 hte tl
          go_wp2_with fail
          refine (hT1.out _).mono ?_; rintro e w6 ⟨rfl, rfl⟩
          go_wp2_with fail
          refine (hT2.out _).mono ?_; rintro e w6 ⟨rfl, rfl⟩
          go_wp2
          go_roundw
          case rel => exact ⟨j + 1, t.at_, hjn, by go_num, rfl, HXn, HTR, HTE2⟩
          case measure => simp [intOf]; omega
        · have q5 : decide ((j : Int) < (r.tags.length : Int)) = false := decide_eq_false (by omega)
          have q5' : decide (j < r.tags.length) = false := decide_eq_false hjn
          have hce : c < r.at_ := by
            have := HTE.out
            rw [List.drop_eq_nil_iff.2 (by omega)] at this
            rw [show c = Ow.tagsEnd e r.tags from this]; exact g6
          have n1 : decide ((r.at_ : Int) ≤ (c : Int)) = false := decide_eq_false (by omega)
          have n1' : decide (r.at_ ≤ c) = false := decide_eq_false (by omega)
          have HBn := Lib.hid (tr17 B3.out HX.out)
          clear HTO HTE
          cases htd : r.td with
          | true =>
            rw [htd] at z7
            obtain ⟨m1, m2⟩ := G7.out htd
            have ml := Ow.std_len m2
            have ml2 : r.wh ≤ s.length + 1 := by omega
            have hw1 : IntKind.i64.wrap ((r.wh : Int) - 1) = ((r.wh - 1 : Nat) : Int) := by rw [show (r.wh : Int) - 1 = ((r.wh - 1 : Nat) : Int) by omega]; exact IntWalk.i64_in _ (by omega)
            have n3 : decide ((r.wh : Int) ≤ (r.at_ : Int)) = false := decide_eq_false (by omega)
            have n3' : decide (r.wh ≤ r.at_) = false := decide_eq_false (by omega)
            have htmn : r.tm.length ≤ 1900 := by simp at ml; omega
            have a1 := fun W => add_st [32] r.tm (by simp; omega) W
            have a2 := fun W => add_st ([32] ++ r.tm) [10] (by simp; omega) W
            have a1 : ∀ W, (Op.stringOp .add ⟨#[32]⟩ (str r.tm)).run Tryd.prog W = .ok (.string (str ([32] ++ r.tm))) W := a1
            have a2 : ∀ W, (Op.stringOp .add (str ([32] ++ r.tm)) ⟨#[10]⟩).run Tryd.prog W = .ok (.string (str ([32] ++ r.tm ++ [10]))) W := a2
            have hM := Lib.hid (fun W => HSt.out (r.wh - 1) ([32] ++ r.tm ++ [10]) W m2)
            have HEn := HEnd
            have hmx : max r.at_ r.wh = r.wh := by omega
            rw [hmx] at HRest HEn
            have hmx2 : max (r.at_ : Int) (r.wh : Int) = (r.wh : Int) := by omega
            clear m2 ml G7 G8 htd
            go_wp2_with fail
            refine (hM.out _).mono ?_; rintro e w6 ⟨rfl, rfl⟩
            go_wp2
            go_roundw
            case rel => exact ⟨i + 1, r.wh, hin, by go_num, by first | rfl | go_num | (congr 1; omega), HBn, HRest, HEn⟩
            case measure => simp [intOf]; omega
          | false =>
            obtain ⟨m1, m2⟩ := G8.out htd
            rw [htd] at z7
            rw [m2] at z8
            rw [m1] at z9
            have z8 : wr.cell? ⟨wo.heap.size, 8, none⟩ = some (.string ⟨#[]⟩) := z8
            have HEn := HEnd
            rw [m1, Nat.max_zero] at HRest HEn
            clear m1 m2 G7 G8 htd
            go_wp2
            go_roundw
            case rel => exact ⟨i + 1, r.at_, hin, by go_num, by first | rfl | go_num | (congr 1; omega), HBn, HRest, HEn⟩
            case measure => simp [intOf]; omega
    | true =>
      have hTX := Lib.hid (HTXT.out (HQ3.out rfl))
      clear HTXT HQ3
      go_wp2_with fail
      rw [HZ3.out]
      clear z0 z1 z2 z3 z4 z5 z6 z7 z8 z9
      obtain ⟨z0, z1, z2, z3, z4, z5, z6, z7, z8, z9⟩ := HL.out W3 (Below.refl _ _)
      refine (hS1.out _).mono ?_; rintro e w4 ⟨rfl, rfl⟩
      go_wp2_with fail
      refine (hTX.out _).mono ?_; rintro e w4 ⟨rfl, rfl⟩
      go_wp2_with fail
      clear z0 z1 z2 z3 z4 z5 z6 z7 z8 z9
      go_loopw [8, 5] (fun v u wx => ∃ j c : Nat, j ≤ r.tags.length ∧ v = .int .i64 j ∧ u = .int .i64 c ∧ Hid (Below W3.heap.size W3 wx) ∧ Hid (Ow.TagsOk s c (r.tags.drop j)) ∧ Hid (Ow.tagsEnd c (r.tags.drop j) = Ow.tagsEnd e r.tags)) (fun v _ _ => r.tags.length - (intOf v).toNat)
      case atStart => exact ⟨0, e, Nat.zero_le _, rfl, rfl, Lib.hid (Below.refl _ _), G5, Lib.hid rfl⟩
      case round =>
        clear G5
        obtain ⟨j, c, hj, rfl, rfl, HX, HTO, HTE⟩ := hrel
        obtain ⟨z0, z1, z2, z3, z4, z5, z6, z7, z8, z9⟩ := HL.out wr HX.out
        by_cases hjn : j < r.tags.length
        · have q5 : decide ((j : Int) < (r.tags.length : Int)) = true := decide_eq_true (by omega)
          have q5' : decide (j < r.tags.length) = true := decide_eq_true hjn
          have hwj : IntKind.i64.wrap ((j : Int) + 1) = ((j + 1 : Nat) : Int) := by rw [show (j : Int) + 1 = ((j + 1 : Nat) : Int) by omega]; exact IntWalk.i64_in _ (by omega)
          obtain ⟨t, ht⟩ : ∃ t, r.tags[j]? = some t := ⟨_, List.getElem?_eq_getElem hjn⟩
          obtain ⟨htok, htr, hte⟩ := Ow.tags_at HTO.out ht
          have HTR := Lib.hid htr
          have HTE2 := Lib.hid (hte.symm.trans HTE.out)
          obtain ⟨t1, t2, t3, t4⟩ := htok
          have tl := Ow.std_len t2
          have T2 := Lib.hid t2
          have T3 := Lib.hid t3
          obtain ⟨bt, ot, rfl, hltt, hct⟩ := krow_cells (KRow.below (KRow.below HTr.out B3.out) HX.out) ht
          have y0 : wr.cell? ⟨bt, ot + j * 4, none⟩ = some (.string (str t.n)) := hct 0 _ rfl
          have y1 : wr.cell? ⟨bt, ot + j * 4 + 1, none⟩ = some (.string (str t.v)) := hct 1 _ rfl
          have y2 : wr.cell? ⟨bt, ot + j * 4 + 2, none⟩ = some (.int .i64 (t.off : Nat)) := hct 2 _ rfl
          have y3 : wr.cell? ⟨bt, ot + j * 4 + 3, none⟩ = some (.int .i64 (t.at_ : Nat)) := hct 3 _ rfl
          clear htr hte t2 t3 ht HTO HTE hct hltt
          have htns := str_size t.n
          obtain ⟨te, hte⟩ : ∃ x, x = t.off + t.n.length := ⟨_, rfl⟩
          rw [← hte] at T3 t4
          have hwt : IntKind.i64.wrap ((t.off : Int) + (t.n.length : Int)) = (te : Int) := by rw [show (t.off : Int) + (t.n.length : Int) = (te : Int) by omega]; exact IntWalk.i64_in _ (by omega)
          have hwt2 : IntKind.i64.wrap ((te : Int) + 2) = (t.at_ : Int) := by rw [show (te : Int) + 2 = (t.at_ : Int) by omega]; exact IntWalk.i64_in _ (by omega)
          have n1 : decide ((t.off : Int) ≤ (c : Int)) = false := decide_eq_false (by omega)
          have n1' : decide (t.off ≤ c) = false := decide_eq_false (by omega)
          have n2 : ((t.at_ : Int) != (t.at_ : Int)) = false := by simp
          have hT1 := Lib.hid (fun W => HSt.out t.off t.n W T2.out)
          have hT2 := Lib.hid (fun W => HSt.out te [61, 34] W T3.out)
          have HXn := Lib.hid (tr17 HX.out ((Below.refl wr.heap.size wr).alloc (Nat.le_refl _) (.cells #[.string (str t.n), .string (str t.v), .int .i64 (t.off : Nat), .int .i64 (t.at_ : Nat)] 44)))
          clear t1 t4 hte tl
          go_wp2_with fail
          refine (hT1.out _).mono ?_; rintro e w6 ⟨rfl, rfl⟩
          go_wp2_with fail
          refine (hT2.out _).mono ?_; rintro e w6 ⟨rfl, rfl⟩
          go_wp2
          go_roundw
          case rel => exact ⟨j + 1, t.at_, hjn, by go_num, rfl, HXn, HTR, HTE2⟩
          case measure => simp [intOf]; omega
        · have q5 : decide ((j : Int) < (r.tags.length : Int)) = false := decide_eq_false (by omega)
          have q5' : decide (j < r.tags.length) = false := decide_eq_false hjn
          have hce : c < r.at_ := by
            have := HTE.out
            rw [List.drop_eq_nil_iff.2 (by omega)] at this
            rw [show c = Ow.tagsEnd e r.tags from this]; exact g6
          have n1 : decide ((r.at_ : Int) ≤ (c : Int)) = false := decide_eq_false (by omega)
          have n1' : decide (r.at_ ≤ c) = false := decide_eq_false (by omega)
          have HBn := Lib.hid (tr17 B3.out HX.out)
          clear HTO HTE
          cases htd : r.td with
          | true =>
            rw [htd] at z7
            obtain ⟨m1, m2⟩ := G7.out htd
            have ml := Ow.std_len m2
            have ml2 : r.wh ≤ s.length + 1 := by omega
            have hw1 : IntKind.i64.wrap ((r.wh : Int) - 1) = ((r.wh - 1 : Nat) : Int) := by rw [show (r.wh : Int) - 1 = ((r.wh - 1 : Nat) : Int) by omega]; exact IntWalk.i64_in _ (by omega)
            have n3 : decide ((r.wh : Int) ≤ (r.at_ : Int)) = false := decide_eq_false (by omega)
            have n3' : decide (r.wh ≤ r.at_) = false := decide_eq_false (by omega)
            have htmn : r.tm.length ≤ 1900 := by simp at ml; omega
            have a1 := fun W => add_st [32] r.tm (by simp; omega) W
            have a2 := fun W => add_st ([32] ++ r.tm) [10] (by simp; omega) W
            have a1 : ∀ W, (Op.stringOp .add ⟨#[32]⟩ (str r.tm)).run Tryd.prog W = .ok (.string (str ([32] ++ r.tm))) W := a1
            have a2 : ∀ W, (Op.stringOp .add (str ([32] ++ r.tm)) ⟨#[10]⟩).run Tryd.prog W = .ok (.string (str ([32] ++ r.tm ++ [10]))) W := a2
            have hM := Lib.hid (fun W => HSt.out (r.wh - 1) ([32] ++ r.tm ++ [10]) W m2)
            have HEn := HEnd
            have hmx : max r.at_ r.wh = r.wh := by omega
            rw [hmx] at HRest HEn
            have hmx2 : max (r.at_ : Int) (r.wh : Int) = (r.wh : Int) := by omega
            clear m2 ml G7 G8 htd
            go_wp2_with fail
            refine (hM.out _).mono ?_; rintro e w6 ⟨rfl, rfl⟩
            go_wp2
            go_roundw
            case rel => exact ⟨i + 1, r.wh, hin, by go_num, by first | rfl | go_num | (congr 1; omega), HBn, HRest, HEn⟩
            case measure => simp [intOf]; omega
          | false =>
            obtain ⟨m1, m2⟩ := G8.out htd
            rw [htd] at z7
            rw [m2] at z8
            rw [m1] at z9
            have z8 : wr.cell? ⟨wo.heap.size, 8, none⟩ = some (.string ⟨#[]⟩) := z8
            have HEn := HEnd
            rw [m1, Nat.max_zero] at HRest HEn
            clear m1 m2 G7 G8 htd
            go_wp2
            go_roundw
            case rel => exact ⟨i + 1, r.at_, hin, by go_num, by first | rfl | go_num | (congr 1; omega), HBn, HRest, HEn⟩
            case measure => simp [intOf]; omega

end Go.Proofs.YthniemoganoapaaDoor
