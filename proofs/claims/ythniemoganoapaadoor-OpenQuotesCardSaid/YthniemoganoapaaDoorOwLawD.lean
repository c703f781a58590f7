/- The walk of the law OpenQuotes (layer 17). -/
import Derived.Test.YthniemoganoapaaDoorOpO
import Derived.Test.YthniemoganoapaaDoorOwQuote
import Derived.Test.YthniemoganoapaaDoorRfA
set_option maxRecDepth 100000
set_option linter.unusedVariables false
set_option linter.unusedSimpArgs false
namespace Go.Proofs.YthniemoganoapaaDoor
open Go.RowKit
attribute [local go_sem ↓] Go.wp_at_zero Go.wp_at_succ

theorem own_tags2 {w : World} {B : Nat} {v : Value} {a b : Ow.Tg} (h : TgOwn w B v [a, b]) : ∃ g cap, v = .slice (some ⟨g, 0, none⟩) 2 cap ∧ g < w.heap.size ∧ (∀ j u, (encTg a)[j]? = some u → w.cell? ⟨g, j, none⟩ = some u) ∧ (∀ j u, (encTg b)[j]? = some u → w.cell? ⟨g, 4 + j, none⟩ = some u) := by
  have h0 := h
  obtain ⟨hl, h⟩ := h
  rcases h with ⟨hv, hn⟩ | ⟨g, cap', cur, hv, hg, hb, hr⟩
  · simp at hn
  · subst hv
    have hx : [a, b].flatMap encTg = encTg a ++ encTg b := by simp
    refine ⟨g, cap', rfl, (Array.getElem?_eq_some_iff.1 hb).1, fun j u hu => ?_, fun j u hu => ?_⟩
    · have hj : j < 4 := by have := (List.getElem?_eq_some_iff.1 hu).1; rwa [encTg_len] at this
      have := World.ownsRow.cellAt h0 j (by show j < 2 * 4; omega)
      rw [this, hx, List.getElem?_append_left (by rw [encTg_len]; exact hj)]; exact hu
    · have hj : j < 4 := by have := (List.getElem?_eq_some_iff.1 hu).1; rwa [encTg_len] at this
      have := World.ownsRow.cellAt h0 (4 + j) (by show 4 + j < 2 * 4; omega)
      rw [this, hx, List.getElem?_append_right (by rw [encTg_len]; omega), encTg_len, show 4 + j - 4 = j by omega]; exact hu
namespace Ow
theorem qText_is (h q : List UInt8) : [35, 32, 72, 69, 76, 80, 32, 97, 32] ++ h ++ [10, 97, 123, 98, 61, 34] ++ q ++ [34, 44, 99, 61, 34, 34, 125, 32, 49, 10, 35, 32, 69, 79, 70, 10] = qText h q := by
  simp [qText, tl2]
end Ow

set_option maxHeartbeats 32000000 in
theorem oquotes_walk (v : List UInt8) (w : World) (hm : v.length ≤ maxLen) (hT : OwT w w.heap.size) :
    Calls Tryd.prog 6 #[.string (str v)] w fun e w' => e = .returned (.bool true) ∧ Below w.heap.size w w' := by
  have hsz := str_size v
  have hk0 := oknown_calls w hT
  have HT := Lib.hid (fun W (hb : Below w.heap.size w W) => hT.up hb)
  have HBr := Lib.hid (fun W => bad_ref (str v) W (by rw [hsz]; exact hm))
  unfold maxLen at hm
  clear hT
  by_cases h1 : v.length ≤ 200
  rotate_left
  · have d1 : decide ((200 : Int) < (v.length : Int)) = true := decide_eq_true (by omega)
    have d1' : decide (200 < v.length) = true := decide_eq_true (by omega)
    go_enter Tryd.func6, Tryd.ntmps6
    go_wp2_with fail
    refine hk0.mono ?_; rintro e w1 ⟨rfl, b1⟩
    go_wp2
    go_ret
    exact ⟨rfl, b1⟩
  have d1 : decide ((200 : Int) < (v.length : Int)) = false := decide_eq_false (by omega)
  have d1' : decide (200 < v.length) = false := decide_eq_false (by omega)
  rw [show (str v).data.toList = v from rfl] at HBr
  by_cases h2 : 0 ≤ Utf.bad v
  · have d2 : decide (0 ≤ Utf.bad v) = true := decide_eq_true h2
    go_enter Tryd.func6, Tryd.ntmps6
    go_wp2_with fail
    refine hk0.mono ?_; rintro e w1 ⟨rfl, b1⟩
    go_wp2_with fail
    refine (HBr.out _).mono ?_; rintro e w2 ⟨rfl, rfl⟩
    go_wp2
    go_ret
    exact ⟨rfl, b1⟩
  have d2 : decide (0 ≤ Utf.bad v) = false := decide_eq_false h2
  have HRQ := Lib.hid (fun N => Ow.rows_q (v := v) (by omega) N)
  have HCl := Lib.hid (Ow.quote_clean v)
  obtain ⟨l1, l2, l3⟩ := Ow.quote_len v
  have HQ := Lib.hid (fun W (hb : Below w.heap.size w W) => oquote_calls v W (HT.out W hb) (by omega))
  have HH := Lib.hid (fun W (hb : Below w.heap.size w W) => ohelp_calls v W (HT.out W hb) (by omega))
  obtain ⟨q, hq⟩ : ∃ q, q = Ow.quote true v := ⟨_, rfl⟩
  obtain ⟨h, hh⟩ : ∃ h, h = Ow.quote false v := ⟨_, rfl⟩
  rw [← hq] at HRQ HCl HQ l2 l3
  rw [← hh] at HRQ HH l1 l2
  clear hq hh
  have hqs := str_size q
  have hhs := str_size h
  have HR := Lib.hid (fun W (hb : Below w.heap.size w W) => rows0_calls (Ow.qText h q) W (HT.out W hb) (by rw [← Ow.qText_is]; simp; omega))
  unfold RowsP at HR
  obtain ⟨x, y, ta, tb, hrows, hx1, hx2, hy1, ha1, hb1⟩ := HRQ.out (Ow.qText h q).length
  have hbad : Ow.bad (Ow.qText h q) = -1 := by unfold Ow.bad; rw [hrows]
  rw [hbad] at HR
  have HRows := Lib.hid hrows
  have a1 := fun W => add_st [35, 32, 72, 69, 76, 80, 32, 97, 32] h (by simp; omega) W
  have a2 := fun W => add_st ([35, 32, 72, 69, 76, 80, 32, 97, 32] ++ h) [10, 97, 123, 98, 61, 34] (by simp; omega) W
  have a3 := fun W => add_st ([35, 32, 72, 69, 76, 80, 32, 97, 32] ++ h ++ [10, 97, 123, 98, 61, 34]) q (by simp; omega) W
  have a4 := fun W => add_st ([35, 32, 72, 69, 76, 80, 32, 97, 32] ++ h ++ [10, 97, 123, 98, 61, 34] ++ q) [34, 44, 99, 61, 34, 34, 125, 32, 49, 10, 35, 32, 69, 79, 70, 10] (by simp; omega) W
  rw [Ow.qText_is] at a4
  generalize [35, 32, 72, 69, 76, 80, 32, 97, 32] ++ h ++ [10, 97, 123, 98, 61, 34] ++ q = T3 at *
  generalize [35, 32, 72, 69, 76, 80, 32, 97, 32] ++ h ++ [10, 97, 123, 98, 61, 34] = T2 at *
  generalize [35, 32, 72, 69, 76, 80, 32, 97, 32] ++ h = T1 at *
  have a1 : ∀ W, (Op.stringOp .add ⟨#[35, 32, 72, 69, 76, 80, 32, 97, 32]⟩ (str h)).run Tryd.prog W = .ok (.string (str T1)) W := a1
  have a2 : ∀ W, (Op.stringOp .add (str T1) ⟨#[10, 97, 123, 98, 61, 34]⟩).run Tryd.prog W = .ok (.string (str T2)) W := a2
  have a4 : ∀ W, (Op.stringOp .add (str T3) ⟨#[34, 44, 99, 61, 34, 34, 125, 32, 49, 10, 35, 32, 69, 79, 70, 10]⟩).run Tryd.prog W = .ok (.string (str (Ow.qText h q))) W := a4
  clear HRQ hrows hbad
  go_enter Tryd.func6, Tryd.ntmps6
  go_wp2_with fail
  refine hk0.mono ?_; rintro e w1 ⟨rfl, b1⟩
  go_wp2_with fail
  refine (HBr.out _).mono ?_; rintro e w2 ⟨rfl, rfl⟩
  go_wp2_with fail
  refine (HQ.out _ b1).mono ?_; rintro e w3 ⟨rfl, b3⟩
  have B3 := Lib.hid (tr17 b1 b3)
  go_wp2_with fail
  refine (HH.out _ B3.out).mono ?_; rintro e w4 ⟨rfl, b4⟩
  have B4 := Lib.hid (tr17 B3.out b4)
  clear b1 b3 b4 B3 HBr HQ HH hk0
  go_wp2_with fail
  refine (HR.out _ B4.out).mono ?_; rintro e w5 ⟨A, n, cap, L, rfl, b5, hK, hTg, hyes, -⟩
  have B5 := Lib.hid (tr17 B4.out b5)
  obtain ⟨r, hM⟩ := hyes (by decide)
  rw [HRows.out] at hM
  injection hM with hM _
  obtain ⟨x0, x1, rfl⟩ : ∃ x0 x1, L = [x0, x1] := by
    match L, hM with
    | [x0, x1], _ => exact ⟨x0, x1, rfl⟩
  injection hM with e0 e1
  injection e1 with e1 _
  have e0 : x0.1 = x := e0.symm
  have e1 : x1.1 = y := e1.symm
  have hT1 := hTg x1 (by simp)
  rw [e1, hy1] at hT1
  obtain ⟨g, rfl, rfl, hg, hz0, hz1⟩ := own_two hK
  obtain ⟨gt, cpt, hvt, hgt, hzt, hzu⟩ := own_tags2 hT1
  have y00 := hz0 0 _ rfl
  have y05 := hz0 5 _ rfl
  have y13 := hz1 3 _ rfl
  have t1 := hzt 1 _ rfl
  have u1 := hzu 1 _ rfl
  rw [e0, hx1] at y00
  rw [e0, hx2] at y05
  rw [hvt] at y13
  rw [ha1] at t1
  rw [hb1] at u1
  have HC := Lib.hid (fun W (hb : Below w5.heap.size w5 W) =>
    show W.cell? ⟨g, 0, none⟩ = some (.int .i64 3) ∧ W.cell? ⟨g, 5, none⟩ = some (.string (str v)) ∧ W.cell? ⟨g, 10 + 3, none⟩ = some (.slice (some ⟨gt, 0, none⟩) 2 cpt) ∧ W.cell? ⟨gt, 1, none⟩ = some (.string (str v)) ∧ W.cell? ⟨gt, 4 + 1, none⟩ = some (.string ⟨#[]⟩) from
    ⟨(hb.cell (p := ⟨g, 0, none⟩) hg).trans y00, (hb.cell (p := ⟨g, 5, none⟩) hg).trans y05, (hb.cell (p := ⟨g, 10 + 3, none⟩) hg).trans y13, (hb.cell (p := ⟨gt, 1, none⟩) hgt).trans t1, (hb.cell (p := ⟨gt, 4 + 1, none⟩) hgt).trans u1⟩)
  obtain ⟨z0, z5, z13, s1, s5⟩ := HC.out w5 (Below.refl _ _)
  clear y00 y05 y13 t1 u1 hz0 hz1 hzt hzu hT1 hTg hK hyes b5 B4 HR HRows hvt e0 e1 hx1 hx2 hy1 ha1 hb1 a1 a2 a3 a4
  go_wp2_with fail
  clear z0 z5 z13 s1 s5
  go_loopw [7] (fun u wr => ∃ i : Nat, i ≤ q.length ∧ u = .int .i64 i ∧ Hid (Below w5.heap.size w5 wr)) (fun u _ => q.length - (intOf u).toNat)
  case atStart => exact ⟨0, Nat.zero_le _, rfl, Lib.hid (Below.refl _ _)⟩
  case round =>
    obtain ⟨i, hi, rfl, HB⟩ := hrel
    by_cases hin : i < q.length
    rotate_left
    · have d5 : decide ((i : Int) < (q.length : Int)) = false := decide_eq_false (by omega)
      have d5' : decide (i < q.length) = false := decide_eq_false hin
      have d6 : decide ((h.length : Int) ≤ (q.length : Int)) = true := decide_eq_true (by omega)
      have d6' : decide (h.length ≤ q.length) = true := decide_eq_true l2
      have d7 : decide ((v.length : Int) ≤ (h.length : Int)) = true := decide_eq_true (by omega)
      have d7' : decide (v.length ≤ h.length) = true := decide_eq_true l1
      obtain ⟨z0, z5, z13, s1, s5⟩ := HC.out wr HB.out
      go_wp2
      go_ret
      exact ⟨rfl, tr17 B5.out HB.out⟩
    have d5 : decide ((i : Int) < (q.length : Int)) = true := decide_eq_true (by omega)
    have d5' : decide (i < q.length) = true := decide_eq_true hin
    have hwi : IntKind.i64.wrap ((i : Int) + 1) = ((i + 1 : Nat) : Int) := by rw [show (i : Int) + 1 = ((i + 1 : Nat) : Int) by omega]; exact IntWalk.i64_in _ (by omega)
    have hix : i < (str q).size := by rw [hqs]; exact hin
    obtain ⟨hc1, hc2⟩ := HCl.out i (str q)[i] (List.getElem?_eq_getElem hin)
    have e10 : ((((str q)[i]'hix).toNat : Int) == 10) = false := beq_eq_false_iff_ne.2 (byte_ne hc1)
    by_cases h34 : (str q)[i]'hix = 34
    · have e34 : ((((str q)[i]'hix).toNat : Int) == 34) = true := by rw [h34]; rfl
      obtain ⟨h0, hp⟩ := hc2 h34
      have e00 : ((i : Int) == 0) = false := beq_eq_false_iff_ne.2 (by omega)
      have hw1 : IntKind.i64.wrap ((i : Int) - 1) = ((i - 1 : Nat) : Int) := by rw [show (i : Int) - 1 = ((i - 1 : Nat) : Int) by omega]; exact IntWalk.i64_in _ (by omega)
      have hix1 : i - 1 < (str q).size := by omega
      have e92 : ((((str q)[i - 1]'hix1).toNat : Int) != 92) = false := by
        have : (str q)[i - 1]'hix1 = 92 := by
          obtain ⟨_, hp⟩ := List.getElem?_eq_some_iff.1 hp
          exact hp
        rw [this]; rfl
      clear hc1 hc2 hp h34
      go_wp2
      go_roundw
      case rel => exact ⟨i + 1, hin, by go_num, HB⟩
      case measure => simp [intOf]; omega
    · have e34 : ((((str q)[i]'hix).toNat : Int) == 34) = false := beq_eq_false_iff_ne.2 (byte_ne h34)
      clear hc1 hc2 h34
      go_wp2
      go_roundw
      case rel => exact ⟨i + 1, hin, by go_num, HB⟩
      case measure => simp [intOf]; omega

end Go.Proofs.YthniemoganoapaaDoor
