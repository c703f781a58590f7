/- The walks of the cursor's payload, of package openword's each, Bad, Rows (layer 17). -/
import Derived.Test.YthniemoganoapaaDoorOpJ
set_option maxRecDepth 100000
set_option linter.unusedVariables false
set_option linter.unusedSimpArgs false
namespace Go.Proofs.YthniemoganoapaaDoor
open Go.RowKit
attribute [local go_sem ↓] Go.wp_at_zero Go.wp_at_succ

namespace Ow
theorem startF_4 (l : List UInt8) : (startF l sts 0 0).1 ≤ 4 := by
  simp only [sts, startF]
  repeat' (first | split | decide | omega)
theorem rowsF_succ (f N : Nat) (l : List UInt8) : rowsF (f + 1) N l = (line N l).bind fun o r => match o with | none => .ok [] r | some x => (lit [10] r).bind fun _ r' => (rowsF f N r').map (x :: ·) := rfl
theorem rows_line {f N kd : Nat} {l m : List UInt8} (h : line N l = (row kd N m).map some) : rowsF (f + 1) N l = (lineN kd N m).bind fun x r => (rowsF f N r).map (x :: ·) := by
  rw [rowsF_succ, h]
  unfold lineN
  cases row kd N m with
  | fell r => rfl
  | ok x r =>
    show (lit [10] r).bind _ = ((lit [10] r).bind _).bind _
    cases lit [10] r <;> rfl
theorem rows_eof {f N : Nat} {l m : List UInt8} (h : line N l = eofO m) : rowsF (f + 1) N l = if (if m.head? = some 10 then m.tail else m) = [] then .ok [] [] else .fell (if m.head? = some 10 then m.tail else m) := by
  rw [rowsF_succ, h]
  unfold eofO
  have key : (m = [] ∨ m = [10]) ↔ (if m.head? = some 10 then m.tail else m) = [] := by
    by_cases h10 : m.head? = some 10
    · simp only [if_pos h10]
      have h2 := head_some h10
      constructor
      · rintro (rfl | rfl)
        · rfl
        · rfl
      · intro e; rw [e] at h2; exact Or.inr h2
    · simp only [if_neg h10]
      constructor
      · rintro (rfl | rfl)
        · rfl
        · exact absurd rfl h10
      · intro e; exact Or.inl e
  generalize (if m.head? = some 10 then m.tail else m) = T at *
  by_cases q : m = [] ∨ m = [10]
  · rw [if_pos q, if_pos (key.1 q)]; rfl
  · rw [if_neg q, if_neg (fun e => q (key.2 e))]; rfl
theorem line_len {N kd : Nat} {l m r : List UInt8} {x : Rw} (h : line N l = (row kd N m).map some) (h2 : lineN kd N m = .ok x r) : r.length < l.length := by
  unfold lineN at h2
  obtain ⟨v1, r1, h3, h4⟩ := bind_ok h2
  obtain ⟨v2, r2, h5, h6⟩ := bind_ok h4
  injection h6 with _ h6
  subst h6
  have e := lit_ok h5
  have hs := (suf_line N l).length_le
  rw [h, h3] at hs
  have := congrArg List.length e
  simp only [Out.map, Out.rest, List.length_append, List.length_cons, List.length_nil] at *
  omega
theorem map_nil {α : Type} (o : Out (List α)) : o = o.map ([] ++ ·) := by cases o <;> rfl
theorem lineO_fell {N : Nat} {l : List UInt8} {x : Nat × Bool × Nat} (h : x.2.1 = false) : lineO N l x = .fell (l.drop x.2.2) := by unfold lineO; rw [if_pos h]
theorem lineO_eof {N : Nat} {l : List UInt8} {x : Nat × Bool × Nat} (h : x.2.1 = true) (h2 : x.1 = 4) : lineO N l x = eofO (l.drop x.2.2) := by unfold lineO; rw [if_neg (by rw [h]; decide), if_pos h2]
theorem lineO_row {N : Nat} {l : List UInt8} {x : Nat × Bool × Nat} (h : x.2.1 = true) (h2 : ¬ x.1 = 4) : lineO N l x = (row x.1 N (l.drop x.2.2)).map some := by unfold lineO; rw [if_neg (by rw [h]; decide), if_neg h2]
end Ow

set_option maxHeartbeats 16000000 in
theorem payb_calls (b : Nat) (s : List UInt8) (w : World) (h : Cur w b s 0) (hs : s.length ≤ 1900) :
    Calls Tryd.prog 29 #[.pointer (some ⟨b, 0, none⟩), .func (.func 25) #[] #[]] w fun e w' =>
      e = .returned (.bool (Ow.okB (Ow.rows s.length s))) ∧ (∃ j, (Ow.rows s.length s).rest = s.drop j ∧ Cur w' b s j) ∧ Below b w w' := by
  have hm : s.length ≤ maxLen := by unfold maxLen; omega
  have HT := Lib.hid (fun (t : UInt8) j W (hW : Cur W b s j) => take_calls t b j s W hW hm)
  have HSt := Lib.hid (fun j W (hW : Cur W b s j) => start_calls b j s W hW (by omega))
  have HLi := Lib.hid (fun kd j W (hk : kd ≤ 3) (hW : Cur W b s j) => oline_calls b j s W kd hk hW hs)
  obtain ⟨o, ho⟩ : ∃ o, o = Ow.rows s.length s := ⟨_, rfl⟩
  rw [← ho]
  have HO := Lib.hid (show o = (Ow.rowsF (s.length + 1) s.length (s.drop 0)).map (([] : List Rs).map (·.1) ++ ·) by rw [ho]; exact Ow.map_nil _)
  have H := Lib.hid h
  have HB := Lib.hid (Below.refl b w)
  have hbw := h.lt
  clear ho hm h
  go_enter Tryd.func29, Tryd.ntmps29
  go_wp2_with fail
  go_loopg [14] s.length (fun g _ wr => ∃ (i f : Nat) (L : List Rs), g = s.length - i ∧ L.length ≤ i ∧ (s.drop i).length < f ∧ Hid (Cur wr b s i) ∧ Hid (Below b w wr) ∧ Hid (o = (Ow.rowsF f s.length (s.drop i)).map (L.map (·.1) ++ ·)))
  case atStart => exact ⟨0, _, [], rfl, Nat.zero_le _, Nat.lt_succ_self _, H, HB, HO⟩
  case round =>
    clear H HB HO
    obtain ⟨i, f, L, hg, hL, hf, H, HB, HO⟩ := hrel
    have HGg := Lib.hid hg
    clear hg
    obtain ⟨f, rfl⟩ : ∃ f', f = f' + 1 := ⟨f - 1, by omega⟩
    rw [List.length_drop] at hf
    have hC := HSt.out i wr H.out
    have HLn := Lib.hid (Ow.line_start s.length (s.drop i))
    have HX4 := Lib.hid (Ow.startF_4 (s.drop i))
    generalize Ow.startF (s.drop i) Ow.sts 0 0 = X at *
    obtain ⟨kd, okx, n⟩ := X
    have hil := H.out.le
    go_wp2_with fail
    refine hC.mono ?_; rintro e w1 ⟨rfl, g1, H1⟩
    have H1 := Lib.hid H1
    have HB1 := Lib.hid (Below.grown HB.out g1 (by have := HB.out.size; omega) (fun q e => by injection e with e; omega))
    clear hC g1 H HB
    cases okx with
    | false =>
      have hr := Lib.hid (show o = .fell (s.drop (i + n)) by rw [HO.out, Ow.rowsF_succ, HLn.out, Ow.lineO_fell rfl, List.drop_drop]; rfl)
      clear HLn HO
      go_wp2
      go_ret
      exact ⟨by rw [hr.out]; rfl, ⟨_, by rw [hr.out]; rfl, H1.out⟩, HB1.out⟩
    | true =>
      by_cases h4 : kd = 4
      · subst h4
        have HO2 := Lib.hid (show o = (if (if (s.drop (i + n)).head? = some 10 then (s.drop (i + n)).tail else s.drop (i + n)) = [] then Ow.Out.ok [] [] else .fell (if (s.drop (i + n)).head? = some 10 then (s.drop (i + n)).tail else s.drop (i + n))).map (L.map (·.1) ++ ·) by
          have hle : Ow.line s.length (s.drop i) = Ow.eofO (s.drop (i + n)) := by rw [HLn.out, Ow.lineO_eof rfl rfl, List.drop_drop]
          rw [HO.out, Ow.rows_eof hle])
        clear HLn HO HX4
        go_wp2_with fail
        refine (HT.out 10 (i + n) w1 H1.out).mono ?_; rintro e w2 ⟨rfl, g2, j, hij, hj, H2⟩
        rw [Ow.lit1_rest] at hj
        rw [hj] at HO2
        have H2 := Lib.hid H2
        have HB2 := Lib.hid (Below.grown HB1.out g2 (by have := H1.out.lt; have := HB1.out.size; omega) (fun q e => by injection e with e; omega))
        have jle := H2.out.le
        clear g2 hj H1 HB1
        obtain ⟨c0, c1, cf, cl, -, -⟩ := H2.out
        have HBz := Lib.hid (Below.grown HB2.out (sc_below (below_drewN (Below.refl w2.heap.size w2) 0) none) (by have := HB2.out.size; omega) (fun q e => by cases e))
        clear HBz
        by_cases q : j = s.length
        · have e1 : ((j : Int) == (s.length : Int)) = true := beq_iff_eq.2 (by omega)
          have hd : s.drop j = [] := List.drop_eq_nil_iff.2 (by omega)
          have hr := Lib.hid (show o = .ok (L.map (·.1)) (s.drop j) by rw [HO2.out, hd, if_pos rfl]; show Ow.Out.ok (_ ++ []) _ = _; rw [List.append_nil])
          clear HO2 hd
          go_upto_region 10 with fail
          go_quiet (fail)
          go_wp2
          go_ret
          exact ⟨by rw [hr.out]; first | rfl | simp [Ow.okB, q], ⟨j, by rw [hr.out]; rfl, H2.out.drewN _⟩, below_drewN HB2.out _⟩
        · have e1 : ((j : Int) == (s.length : Int)) = false := beq_eq_false_iff_ne.2 (by omega)
          have hd : ¬ s.drop j = [] := by rw [List.drop_eq_nil_iff]; omega
          have hr := Lib.hid (show o = .fell (s.drop j) by rw [HO2.out, if_neg hd]; rfl)
          clear HO2 hd
          go_upto_region 10 with fail
          go_quiet (fail)
          go_wp2
          go_ret
          exact ⟨by rw [hr.out]; rfl, ⟨j, by rw [hr.out]; rfl, H2.out.drewN _⟩, below_drewN HB2.out _⟩
      · have e4 : ((kd : Int) == 4) = false := beq_eq_false_iff_ne.2 (by omega)
        have hk3 : kd ≤ 3 := by have := HX4.out; omega
        have hle := Lib.hid (show Ow.line s.length (s.drop i) = (Ow.row kd s.length (s.drop (i + n))).map some by rw [HLn.out, Ow.lineO_row rfl h4, List.drop_drop])
        have HO2 := Lib.hid (show o = ((Ow.lineN kd s.length (s.drop (i + n))).bind fun x r => (Ow.rowsF f s.length r).map (x :: ·)).map (L.map (·.1) ++ ·) by rw [HO.out, Ow.rows_line hle.out])
        have HLen := Lib.hid (fun x r => Ow.line_len (x := x) (r := r) hle.out)
        have hC := HLi.out kd (i + n) w1 hk3 H1.out
        clear HLn HO HX4 hle
        generalize Ow.lineN kd s.length (s.drop (i + n)) = P at *
        go_wp2_with fail
        refine hC.mono ?_; rintro e w2 ⟨⟨x, A, m, cap, M, rfl, hW, hx⟩, g2, j, hij, hj, H2⟩
        have H2 := Lib.hid H2
        have HB2 := Lib.hid (Below.grown HB1.out g2 (by have := H1.out.lt; have := HB1.out.size; omega) (fun q e => by injection e with e; omega))
        clear hW
        clear hC g2 H1 HB1
        obtain ⟨W3, hW3⟩ : ∃ X, X = w2.alloc (.cells #[.int .i64 x.k, .string (str x.n), .int .i64 (x.off : Nat), .slice A m cap, .slice none 0 0, .string (str x.text), .int .i64 (x.at_ : Nat), .bool x.td, .string (str x.tm), .int .i64 (x.wh : Nat)] 42) := ⟨_, rfl⟩
        have B3 : Below w2.heap.size w2 W3 := by rw [hW3]; exact (Below.refl _ _).alloc (Nat.le_refl _) _
        have H3 := Lib.hid (H2.out.below B3)
        have HB3 := Lib.hid (Below.trans HB2.out (B3.mono (by have := HB2.out.size; omega)))
        cases P with
        | fell r =>
          obtain rfl : r = s.drop j := hj
          have hr := Lib.hid (show o = .fell (s.drop j) from HO2.out)
          clear HO2 hx B3 H2 HB2
          unfold rwv
          go_upto_region 6 with fail
          rw [← hW3]
          clear hW3
          go_wp2
          go_ret
          exact ⟨by rw [hr.out]; rfl, ⟨j, by rw [hr.out]; rfl, H3.out⟩, HB3.out⟩
        | ok x2 r =>
          obtain rfl : r = s.drop j := hj
          obtain ⟨rfl, rfl⟩ := hx _ _ rfl
          have hln := HLen.out x _ rfl
          rw [List.length_drop, List.length_drop] at hln
          have jle := H2.out.le
          have HO3 := Lib.hid (show o = (Ow.rowsF f s.length (s.drop j)).map ((L ++ [(x, Value.slice A m cap)]).map (·.1) ++ ·) by
            rw [HO2.out]; show Ow.Out.map (Ow.Out.map _ _) _ = _
            cases Ow.rowsF f s.length (s.drop j) <;> simp [Ow.Out.map])
          have hc4 : ∀ i, i < 10 → W3.cell? ⟨w2.heap.size, i, none⟩ = (#[Value.int .i64 x.k, .string (str x.n), .int .i64 (x.off : Nat), .slice A m cap, .slice none 0 0, .string (str x.text), .int .i64 (x.at_ : Nat), .bool x.td, .string (str x.tm), .int .i64 (x.wh : Nat)] : Array Value)[i]? := by
            intro i hi; rw [hW3, cell_of_row _ _ _ _ _ _ (heap_alloc_new w2 _)]
          have z0 : W3.cell? ⟨w2.heap.size, 0, none⟩ = some (.int .i64 x.k) := hc4 0 (by omega)
          have z1 : W3.cell? ⟨w2.heap.size, 1, none⟩ = some (.string (str x.n)) := hc4 1 (by omega)
          have z2 : W3.cell? ⟨w2.heap.size, 2, none⟩ = some (.int .i64 (x.off : Nat)) := hc4 2 (by omega)
          have z3 : W3.cell? ⟨w2.heap.size, 3, none⟩ = some (.slice A m cap) := hc4 3 (by omega)
          have z4 : W3.cell? ⟨w2.heap.size, 4, none⟩ = some (.slice none 0 0) := hc4 4 (by omega)
          have z5 : W3.cell? ⟨w2.heap.size, 5, none⟩ = some (.string (str x.text)) := hc4 5 (by omega)
          have z6 : W3.cell? ⟨w2.heap.size, 6, none⟩ = some (.int .i64 (x.at_ : Nat)) := hc4 6 (by omega)
          have z7 : W3.cell? ⟨w2.heap.size, 7, none⟩ = some (.bool x.td) := hc4 7 (by omega)
          have z8 : W3.cell? ⟨w2.heap.size, 8, none⟩ = some (.string (str x.tm)) := hc4 8 (by omega)
          have z9 : W3.cell? ⟨w2.heap.size, 9, none⟩ = some (.int .i64 (x.wh : Nat)) := hc4 9 (by omega)
          clear hc4 HO2 hx HLen B3 H2 HB2
          have hF := badf_calls (x, .slice A m cap) ⟨A, m, cap, rfl⟩ W3
          unfold rwv at hF ⊢
          go_upto_region 6 with fail
          rw [← hW3]
          clear hW3
          go_wp2_with fail
          refine hF.mono ?_; rintro e w4 ⟨rfl, u4⟩
          have H4 := Lib.hid (H3.out.below u4)
          have HB4 := Lib.hid (HB3.out.trans (u4.mono (by have := HB3.out.size; omega)))
          clear u4 H3 HB3
          clear z0 z1 z2 z3 z4 z5 z6 z7 z8 z9 hF
          go_wp2
          go_roundg (s.length - j)
          case measure => have := HGg.out; omega
          case rel => exact ⟨j, f, L ++ [(x, Value.slice A m cap)], rfl, by simp; omega, by rw [List.length_drop]; omega, H4, HB4, HO3⟩

set_option maxHeartbeats 16000000 in
theorem payr_calls (b c B : Nat) (s : List UInt8) (w : World) (h : Cur w b s 0) (hR : RowsAt w B c []) (hcb : c < b) (hbB : b < B) (hT : OwT w c) (hs : s.length ≤ 1900) :
    Calls Tryd.prog 29 #[.pointer (some ⟨b, 0, none⟩), .func (.func 20) #[] #[.pointer (some ⟨c, 0, none⟩)]] w fun e w' =>
      e = .returned (.bool (Ow.okB (Ow.rows s.length s))) ∧ (∃ j, (Ow.rows s.length s).rest = s.drop j ∧ Cur w' b s j) ∧ Below c w w' ∧ ∃ L, RowsAt w' B c L ∧ ∀ M r, Ow.rows s.length s = .ok M r → L.map (·.1) = M := by
  have hm : s.length ≤ maxLen := by unfold maxLen; omega
  have HT := Lib.hid (fun (t : UInt8) j W (hW : Cur W b s j) => take_calls t b j s W hW hm)
  have HSt := Lib.hid (fun j W (hW : Cur W b s j) => start_calls b j s W hW (by omega))
  have HLi := Lib.hid (fun kd j W (hk : kd ≤ 3) (hW : Cur W b s j) => oline_calls b j s W kd hk hW hs)
  obtain ⟨o, ho⟩ : ∃ o, o = Ow.rows s.length s := ⟨_, rfl⟩
  rw [← ho]
  have HO := Lib.hid (show o = (Ow.rowsF (s.length + 1) s.length (s.drop 0)).map (([] : List Rs).map (·.1) ++ ·) by rw [ho]; exact Ow.map_nil _)
  have H := Lib.hid h
  have HB := Lib.hid (Below.refl c w)
  have HR := Lib.hid hR
  have HTc := Lib.hid hT
  have hcw : c < w.heap.size := Nat.lt_trans hcb h.lt
  clear hR hT
  clear ho hm h
  go_enter Tryd.func29, Tryd.ntmps29
  go_wp2_with fail
  go_loopg [14] s.length (fun g _ wr => ∃ (i f : Nat) (L : List Rs), g = s.length - i ∧ L.length ≤ i ∧ (s.drop i).length < f ∧ Hid (Cur wr b s i) ∧ Hid (Below c w wr) ∧ Hid (RowsAt wr B c L) ∧ Hid (o = (Ow.rowsF f s.length (s.drop i)).map (L.map (·.1) ++ ·)))
  case atStart => exact ⟨0, _, [], rfl, Nat.zero_le _, Nat.lt_succ_self _, H, HB, HR, HO⟩
  case round =>
    clear H HB HO HR
    obtain ⟨i, f, L, hg, hL, hf, H, HB, HR, HO⟩ := hrel
    have HGg := Lib.hid hg
    clear hg
    obtain ⟨f, rfl⟩ : ∃ f', f = f' + 1 := ⟨f - 1, by omega⟩
    rw [List.length_drop] at hf
    have hC := HSt.out i wr H.out
    have HLn := Lib.hid (Ow.line_start s.length (s.drop i))
    have HX4 := Lib.hid (Ow.startF_4 (s.drop i))
    generalize Ow.startF (s.drop i) Ow.sts 0 0 = X at *
    obtain ⟨kd, okx, n⟩ := X
    have hil := H.out.le
    go_wp2_with fail
    refine hC.mono ?_; rintro e w1 ⟨rfl, g1, H1⟩
    have H1 := Lib.hid H1
    have HB1 := Lib.hid (Below.grown HB.out g1 (by have := HR.out.le; omega) (fun q e => by injection e with e; omega))
    have HR1 := Lib.hid (HR.out.grown g1 (by omega) hbB)
    clear hC g1 H HB HR
    cases okx with
    | false =>
      have hr := Lib.hid (show o = .fell (s.drop (i + n)) by rw [HO.out, Ow.rowsF_succ, HLn.out, Ow.lineO_fell rfl, List.drop_drop]; rfl)
      clear HLn HO
      go_wp2
      go_ret
      exact ⟨by rw [hr.out]; rfl, ⟨_, by rw [hr.out]; rfl, H1.out⟩, HB1.out, L, HR1.out, fun M r e => (by rw [hr.out] at e; cases e)⟩
    | true =>
      by_cases h4 : kd = 4
      · subst h4
        have HO2 := Lib.hid (show o = (if (if (s.drop (i + n)).head? = some 10 then (s.drop (i + n)).tail else s.drop (i + n)) = [] then Ow.Out.ok [] [] else .fell (if (s.drop (i + n)).head? = some 10 then (s.drop (i + n)).tail else s.drop (i + n))).map (L.map (·.1) ++ ·) by
          have hle : Ow.line s.length (s.drop i) = Ow.eofO (s.drop (i + n)) := by rw [HLn.out, Ow.lineO_eof rfl rfl, List.drop_drop]
          rw [HO.out, Ow.rows_eof hle])
        clear HLn HO HX4
        go_wp2_with fail
        refine (HT.out 10 (i + n) w1 H1.out).mono ?_; rintro e w2 ⟨rfl, g2, j, hij, hj, H2⟩
        rw [Ow.lit1_rest] at hj
        rw [hj] at HO2
        have H2 := Lib.hid H2
        have HB2 := Lib.hid (Below.grown HB1.out g2 (by have := HR1.out.le; omega) (fun q e => by injection e with e; omega))
        have HR2 := Lib.hid (HR1.out.grown g2 (by omega) hbB)
        have jle := H2.out.le
        clear g2 hj H1 HB1 HR1
        obtain ⟨c0, c1, cf, cl, -, -⟩ := H2.out
        have HBz := Lib.hid (Below.grown HB2.out (sc_below (below_drewN (Below.refl w2.heap.size w2) 0) none) (by have := HR2.out.le; omega) (fun q e => by cases e))
        clear HBz
        by_cases q : j = s.length
        · have e1 : ((j : Int) == (s.length : Int)) = true := beq_iff_eq.2 (by omega)
          have hd : s.drop j = [] := List.drop_eq_nil_iff.2 (by omega)
          have hr := Lib.hid (show o = .ok (L.map (·.1)) (s.drop j) by rw [HO2.out, hd, if_pos rfl]; show Ow.Out.ok (_ ++ []) _ = _; rw [List.append_nil])
          clear HO2 hd
          go_upto_region 10 with fail
          go_quiet (fail)
          go_wp2
          go_ret
          exact ⟨by rw [hr.out]; first | rfl | simp [Ow.okB, q], ⟨j, by rw [hr.out]; rfl, H2.out.drewN _⟩, below_drewN HB2.out _, L, HR2.out.below (below_drewN (Below.refl _ _) _), fun M r e => (by rw [hr.out] at e; injection e with e1 e2)⟩
        · have e1 : ((j : Int) == (s.length : Int)) = false := beq_eq_false_iff_ne.2 (by omega)
          have hd : ¬ s.drop j = [] := by rw [List.drop_eq_nil_iff]; omega
          have hr := Lib.hid (show o = .fell (s.drop j) by rw [HO2.out, if_neg hd]; rfl)
          clear HO2 hd
          go_upto_region 10 with fail
          go_quiet (fail)
          go_wp2
          go_ret
          exact ⟨by rw [hr.out]; rfl, ⟨j, by rw [hr.out]; rfl, H2.out.drewN _⟩, below_drewN HB2.out _, L, HR2.out.below (below_drewN (Below.refl _ _) _), fun M r e => (by rw [hr.out] at e; cases e)⟩
      · have e4 : ((kd : Int) == 4) = false := beq_eq_false_iff_ne.2 (by omega)
        have hk3 : kd ≤ 3 := by have := HX4.out; omega
        have hle := Lib.hid (show Ow.line s.length (s.drop i) = (Ow.row kd s.length (s.drop (i + n))).map some by rw [HLn.out, Ow.lineO_row rfl h4, List.drop_drop])
        have HO2 := Lib.hid (show o = ((Ow.lineN kd s.length (s.drop (i + n))).bind fun x r => (Ow.rowsF f s.length r).map (x :: ·)).map (L.map (·.1) ++ ·) by rw [HO.out, Ow.rows_line hle.out])
        have HLen := Lib.hid (fun x r => Ow.line_len (x := x) (r := r) hle.out)
        have hC := HLi.out kd (i + n) w1 hk3 H1.out
        clear HLn HO HX4 hle
        generalize Ow.lineN kd s.length (s.drop (i + n)) = P at *
        go_wp2_with fail
        refine hC.mono ?_; rintro e w2 ⟨⟨x, A, m, cap, M, rfl, hW, hx⟩, g2, j, hij, hj, H2⟩
        have H2 := Lib.hid H2
        have HB2 := Lib.hid (Below.grown HB1.out g2 (by have := HR1.out.le; omega) (fun q e => by injection e with e; omega))
        have HR2 := Lib.hid (HR1.out.grown g2 (by omega) hbB)
        have HW2 := Lib.hid (KOwn.mono hW HR1.out.le)
        clear hW
        clear hC g2 H1 HB1 HR1
        obtain ⟨W3, hW3⟩ : ∃ X, X = w2.alloc (.cells #[.int .i64 x.k, .string (str x.n), .int .i64 (x.off : Nat), .slice A m cap, .slice none 0 0, .string (str x.text), .int .i64 (x.at_ : Nat), .bool x.td, .string (str x.tm), .int .i64 (x.wh : Nat)] 42) := ⟨_, rfl⟩
        have B3 : Below w2.heap.size w2 W3 := by rw [hW3]; exact (Below.refl _ _).alloc (Nat.le_refl _) _
        have H3 := Lib.hid (H2.out.below B3)
        have HB3 := Lib.hid (Below.trans HB2.out (B3.mono (by have := HR2.out.le; omega)))
        have HR3 := Lib.hid (HR2.out.below B3)
        have HW3 := Lib.hid (KOwn.below HW2.out B3)
        clear HW2
        cases P with
        | fell r =>
          obtain rfl : r = s.drop j := hj
          have hr := Lib.hid (show o = .fell (s.drop j) from HO2.out)
          clear HO2 hx B3 H2 HB2 HR2
          unfold rwv
          go_upto_region 6 with fail
          rw [← hW3]
          clear hW3
          go_wp2
          go_ret
          exact ⟨by rw [hr.out]; rfl, ⟨j, by rw [hr.out]; rfl, H3.out⟩, HB3.out, L, HR3.out, fun M r e => (by rw [hr.out] at e; cases e)⟩
        | ok x2 r =>
          obtain rfl : r = s.drop j := hj
          obtain ⟨rfl, rfl⟩ := hx _ _ rfl
          have hln := HLen.out x _ rfl
          rw [List.length_drop, List.length_drop] at hln
          have jle := H2.out.le
          have HO3 := Lib.hid (show o = (Ow.rowsF f s.length (s.drop j)).map ((L ++ [(x, Value.slice A m cap)]).map (·.1) ++ ·) by
            rw [HO2.out]; show Ow.Out.map (Ow.Out.map _ _) _ = _
            cases Ow.rowsF f s.length (s.drop j) <;> simp [Ow.Out.map])
          have hc4 : ∀ i, i < 10 → W3.cell? ⟨w2.heap.size, i, none⟩ = (#[Value.int .i64 x.k, .string (str x.n), .int .i64 (x.off : Nat), .slice A m cap, .slice none 0 0, .string (str x.text), .int .i64 (x.at_ : Nat), .bool x.td, .string (str x.tm), .int .i64 (x.wh : Nat)] : Array Value)[i]? := by
            intro i hi; rw [hW3, cell_of_row _ _ _ _ _ _ (heap_alloc_new w2 _)]
          have z0 : W3.cell? ⟨w2.heap.size, 0, none⟩ = some (.int .i64 x.k) := hc4 0 (by omega)
          have z1 : W3.cell? ⟨w2.heap.size, 1, none⟩ = some (.string (str x.n)) := hc4 1 (by omega)
          have z2 : W3.cell? ⟨w2.heap.size, 2, none⟩ = some (.int .i64 (x.off : Nat)) := hc4 2 (by omega)
          have z3 : W3.cell? ⟨w2.heap.size, 3, none⟩ = some (.slice A m cap) := hc4 3 (by omega)
          have z4 : W3.cell? ⟨w2.heap.size, 4, none⟩ = some (.slice none 0 0) := hc4 4 (by omega)
          have z5 : W3.cell? ⟨w2.heap.size, 5, none⟩ = some (.string (str x.text)) := hc4 5 (by omega)
          have z6 : W3.cell? ⟨w2.heap.size, 6, none⟩ = some (.int .i64 (x.at_ : Nat)) := hc4 6 (by omega)
          have z7 : W3.cell? ⟨w2.heap.size, 7, none⟩ = some (.bool x.td) := hc4 7 (by omega)
          have z8 : W3.cell? ⟨w2.heap.size, 8, none⟩ = some (.string (str x.tm)) := hc4 8 (by omega)
          have z9 : W3.cell? ⟨w2.heap.size, 9, none⟩ = some (.int .i64 (x.wh : Nat)) := hc4 9 (by omega)
          clear hc4 HO2 hx HLen B3 H2 HB2 HR2
          have hF := rowsf_calls B c L x A m cap W3 HR3.out HW3.out (by omega)
          unfold rwv at hF ⊢
          go_upto_region 6 with fail
          rw [← hW3]
          clear hW3
          go_wp2_with fail
          refine hF.mono ?_; rintro e w4 ⟨rfl, R4, u4⟩
          have H4 := Lib.hid (H3.out.but u4 hbB hcb (HTc.out.kept (fun q hq => HB3.out.block q hq)))
          have HB4 := Lib.hid (HB3.out.trans (u4.to (by omega) (Nat.le_refl _)))
          have HR4 := Lib.hid R4
          clear R4 u4 H3 HB3 HR3 HW3
          clear z0 z1 z2 z3 z4 z5 z6 z7 z8 z9 hF
          go_wp2
          go_roundg (s.length - j)
          case measure => have := HGg.out; omega
          case rel => exact ⟨j, f, L ++ [(x, Value.slice A m cap)], rfl, by simp; omega, by rw [List.length_drop]; omega, H4, HB4, HR4, HO3⟩

end Go.Proofs.YthniemoganoapaaDoor
