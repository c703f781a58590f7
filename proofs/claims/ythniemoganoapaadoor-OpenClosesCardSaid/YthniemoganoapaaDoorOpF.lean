/- The walk of the cursor's tags of package openword (layer 17). -/
import Derived.Test.YthniemoganoapaaDoorOpE
set_option maxRecDepth 100000
set_option linter.unusedVariables false
set_option linter.unusedSimpArgs false
namespace Go.Proofs.YthniemoganoapaaDoor
open Go.RowKit
attribute [local go_sem ↓] Go.wp_at_zero Go.wp_at_succ

theorem ko_grown {α : Type} {enc : α → List Value} {el k c base : Nat} {w w' : World} {v : Value} {l : List α} (h : KOwn enc el k w base v l) (hg : w.grownBy w' (some c)) (hc : c < base) : KOwn enc el k w' base v l :=
  World.ownsRow.kept h hg (Or.inr fun e => by have := own_ge h _ e; omega)
theorem ko_row {α : Type} {enc : α → List Value} {el k base : Nat} {w w' : World} {v u : Value} {l : List α} (h : KOwn enc el k w base v l) (hg : w.grownBy w' u.ownBlock) (hb : ∀ q, u.ownBlock = some q → base ≤ q) : Below base w w' → True := fun _ => trivial
namespace Ow
theorem suf_len {l s : List UInt8} (h : l <:+ s) : l.length ≤ s.length := h.length_le
theorem tag1_len {N : Nat} {l r : List UInt8} {t : Tg} (h : tag1 N l = .ok t r) : r.length ≤ l.length := by
  unfold tag1 at h
  obtain ⟨v1, r1, h1, h⟩ := bind_ok h
  obtain ⟨v2, r2, h2, h⟩ := bind_ok h
  obtain ⟨v3, r3, h3, h⟩ := bind_ok h
  obtain ⟨v4, r4, h4, h⟩ := bind_ok h
  injection h with _ h
  subst h
  have e1 := (suf_run 3 [] true l).length_le
  have e2 := lit_ok h2
  have e3 := (suf_str (e := 34) (bad := [10]) (marks := [92, 34, 110]) (n := 110) (by decide) _ r2 (Nat.le_refl _)).length_le
  have e4 := lit_ok h4
  rw [h1] at e1
  rw [h3] at e3
  have e2 := congrArg List.length e2
  have e4 := congrArg List.length e4
  simp only [Out.rest, List.length_append, List.length_cons, List.length_nil] at *
  omega
theorem tagsF_succ (f N : Nat) (l : List UInt8) : tagsF (f + 1) N l = (tag1 N l).bind fun t r => if r.head? = some 44 then (tagsF f N r.tail).map (t :: ·) else (lit [125] r).bind fun _ r' => .ok [t] r' := rfl
end Ow

set_option maxHeartbeats 16000000 in
theorem otags_calls (b k : Nat) (s : List UInt8) (w : World) (h : Cur w b s k) (hs : s.length ≤ 1900) :
    Calls Tryd.prog 61 #[.pointer (some ⟨b, 0, none⟩)] w fun e w' =>
      (∃ A n cap M, e = .returned (.tuple #[.slice A n cap, .bool (Ow.okB (Ow.tagsO s.length (s.drop k)))]) ∧ TgOwn w' w.heap.size (.slice A n cap) M ∧ ∀ L r, Ow.tagsO s.length (s.drop k) = .ok L r → M = L) ∧
      w.grownBy w' (some b) ∧ Took w' b s k (Ow.tagsO s.length (s.drop k)) := by
  have hm : s.length ≤ maxLen := by unfold maxLen; omega
  have HT := Lib.hid (fun (t : UInt8) j W (hW : Cur W b s j) => take_calls t b j s W hW hm)
  have HTag := Lib.hid (fun j W (hW : Cur W b s j) => otag_calls b j s W hW (by omega))
  obtain ⟨o, ho⟩ : ∃ o, o = Ow.tagsO s.length (s.drop k) := ⟨_, rfl⟩
  rw [← ho]
  have hO : o = if (s.drop k).head? = some 123 then (if (s.drop k).tail.head? = some 125 then .ok [] (s.drop k).tail.tail else Ow.tags s.length (s.drop k).tail) else .ok [] (s.drop k) := ho
  have HO := Lib.hid hO
  have hblt := h.lt
  have H := Lib.hid h
  have HG := Lib.hid (sc_below (Below.refl w.heap.size w) (some b))
  clear ho hm hO h
  go_enter Tryd.func61, Tryd.ntmps61
  go_wp2_with fail
  refine (HT.out 123 k w H.out).mono ?_; rintro e w1 ⟨rfl, g1, j, hkj, hj, H1⟩
  rw [Ow.lit1_rest] at hj
  rw [Ow.lit1_okB]
  have H1 := Lib.hid H1
  have HG1 := Lib.hid (sc_trans HG.out g1)
  clear g1 H HG
  by_cases q : (s.drop k).head? = some 123
  rotate_left
  · rw [if_neg q] at hj HO
    rw [decide_eq_false q]
    have hr := Lib.hid (show o = .ok [] (s.drop j) by rw [HO.out, hj])
    clear q hj HO HT HTag
    go_wp2
    go_ret2
    exact ⟨⟨none, 0, 0, [], by rw [hr.out]; rfl, KOwn.nil _ _ _ _ _, fun L r e => by rw [hr.out] at e; injection e with e1 e2⟩, HG1.out, j, hkj, by rw [hr.out]; rfl, H1.out⟩
  rw [if_pos q] at hj HO
  rw [decide_eq_true q]
  rw [hj] at HO
  clear q hj
  go_wp2_with fail
  refine (HT.out 125 j w1 H1.out).mono ?_; rintro e w2 ⟨rfl, g2, j2, hj2, hd2, H2⟩
  rw [Ow.lit1_rest] at hd2
  rw [Ow.lit1_okB]
  have H2 := Lib.hid H2
  have HG2 := Lib.hid (sc_trans HG1.out g2)
  clear g2 H1 HG1
  by_cases q : (s.drop j).head? = some 125
  · rw [if_pos q] at hd2 HO
    rw [decide_eq_true q]
    have hr := Lib.hid (show o = .ok [] (s.drop j2) by rw [HO.out, hd2])
    clear q hd2 HO HT HTag
    go_wp2
    go_ret2
    exact ⟨⟨none, 0, 0, [], by rw [hr.out]; rfl, KOwn.nil _ _ _ _ _, fun L r e => by rw [hr.out] at e; injection e with e1 e2⟩, HG2.out, j2, by omega, by rw [hr.out]; rfl, H2.out⟩
  rw [if_neg q] at hd2 HO
  rw [decide_eq_false q]
  have HO1 := Lib.hid (show o = (Ow.tagsF ((s.drop j2).length + 1) s.length (s.drop j2)).map ([] ++ ·) by
    rw [HO.out, hd2]; unfold Ow.tags; cases Ow.tagsF ((s.drop j2).length + 1) s.length (s.drop j2) <;> rfl)
  have hkj2 : k ≤ j2 := by omega
  clear q hd2 HO hkj hj2
  go_wp2_with fail
  go_loopg [4] (s.length - j2) (fun g v wr => ∃ (i f : Nat) (L : List Ow.Tg) (A : Option Addr) (n cap : Nat), g = s.length - i ∧ v = .slice A n cap ∧ k ≤ i ∧ L.length ≤ i ∧ (s.drop i).length < f ∧ Hid (Cur wr b s i) ∧ Hid (w.grownBy wr (some b)) ∧ Hid (TgOwn wr w.heap.size (.slice A n cap) L) ∧ Hid (o = (Ow.tagsF f s.length (s.drop i)).map (L ++ ·)))
  case atStart => exact ⟨j2, _, [], none, 0, 0, rfl, rfl, hkj2, Nat.zero_le _, Nat.lt_succ_self _, H2, HG2, Lib.hid (KOwn.nil _ _ _ _ _), HO1⟩
  case round =>
    clear H2 HG2 HO1
    obtain ⟨i, f, L, A, n, cap, hg, rfl, hki, hL, hf, H, HG, HW, HO⟩ := hrel
    have HGg := Lib.hid hg
    clear hg
    obtain ⟨f, rfl⟩ : ∃ f', f = f' + 1 := ⟨f - 1, by omega⟩
    have HO2 := Lib.hid (show o = ((Ow.tag1 s.length (s.drop i)).bind fun t r => if r.head? = some 44 then (Ow.tagsF f s.length r.tail).map (t :: ·) else (Ow.lit [125] r).bind fun _ r' => .ok [t] r').map (L ++ ·) by rw [HO.out, Ow.tagsF_succ])
    have hC := HTag.out i wr H.out
    clear HO H
    have HLn := Lib.hid (fun t r => Ow.tag1_len (N := s.length) (l := s.drop i) (r := r) (t := t))
    generalize Ow.tag1 s.length (s.drop i) = P at *
    go_wp2_with fail
    refine hC.mono ?_; rintro e w3 ⟨⟨x, rfl, hx⟩, g3, i3, hi3, hd3, H3⟩
    have HG3 := Lib.hid (sc_trans HG.out g3)
    have HW3 := Lib.hid (ko_grown HW.out g3 hblt)
    have hz3 := HG3.out.size
    clear hC g3 HG HW
    cases P with
    | fell r =>
      have hr := Lib.hid (show o = .fell (s.drop i3) by rw [HO2.out, ← show r = s.drop i3 from hd3]; rfl)
      have H4 := Lib.hid (H3.below ((Below.refl w3.heap.size w3).alloc (Nat.le_refl _) (.cells #[.string (str x.n), .string (str x.v), .int .i64 (x.off : Nat), .int .i64 (x.at_ : Nat)] 44)))
      have HG4 := Lib.hid (sc_trans HG3.out (sc_below ((Below.refl w3.heap.size w3).alloc (Nat.le_refl _) (.cells #[.string (str x.n), .string (str x.v), .int .i64 (x.off : Nat), .int .i64 (x.at_ : Nat)] 44)) (some b)))
      clear HO2 hd3 H3 HW3 HG3 hx
      unfold tgv
      go_wp2
      go_ret2
      exact ⟨⟨none, 0, 0, [], by rw [hr.out]; rfl, KOwn.nil _ _ _ _ _, fun L r e => by rw [hr.out] at e; cases e⟩, HG4.out, i3, by omega, by rw [hr.out]; rfl, H4.out⟩
    | ok t r =>
      obtain rfl : x = t := hx _ _ rfl
      obtain rfl : r = s.drop i3 := hd3
      have hln := HLn.out x _ rfl
      rw [List.length_drop, List.length_drop] at hln
      have HO3 := Lib.hid (show o = (if (s.drop i3).head? = some 44 then (Ow.tagsF f s.length (s.drop i3).tail).map (x :: ·) else (Ow.lit [125] (s.drop i3)).bind fun _ r' => .ok [x] r').map (L ++ ·) from HO2.out)
      have le3 := H3.le
      clear HO2 hx HLn
      unfold tgv
      obtain ⟨W4, hW4⟩ : ∃ X, X = w3.alloc (.cells #[.string (str x.n), .string (str x.v), .int .i64 (x.off : Nat), .int .i64 (x.at_ : Nat)] 44) := ⟨_, rfl⟩
      have B4 : Below w3.heap.size w3 W4 := by rw [hW4]; exact (Below.refl w3.heap.size w3).alloc (Nat.le_refl _) _
      have H4 := Lib.hid (H3.below B4)
      have HG4 := Lib.hid (sc_trans HG3.out (sc_below B4 (some b)))
      have HW4 := Lib.hid (KOwn.below HW3.out B4)
      have HN := Lib.hid (tg_knew W4 x)
      have B5 := (Below.refl W4.heap.size W4).alloc (Nat.le_refl _) (.cells #[.string (str x.n), .string (str x.v), .int .i64 (x.off : Nat), .int .i64 (x.at_ : Nat)] 44)
      have H5 := Lib.hid (H4.out.below B5)
      have HG5 := Lib.hid (sc_trans HG4.out (sc_below B5 (some b)))
      have HW5 := Lib.hid (KOwn.below HW4.out B5)
      have hsz5 := HG5.out.size
      have hc4 : ∀ i, i < 4 → W4.cell? ⟨w3.heap.size, i, none⟩ = (#[Value.string (str x.n), .string (str x.v), .int .i64 (x.off : Nat), .int .i64 (x.at_ : Nat)] : Array Value)[i]? := by
        intro i hi; rw [hW4, cell_of_row _ _ _ _ _ _ (heap_alloc_new w3 _)]
      have z0 : W4.cell? ⟨w3.heap.size, 0, none⟩ = some (.string (str x.n)) := hc4 0 (by omega)
      have z1 : W4.cell? ⟨w3.heap.size, 1, none⟩ = some (.string (str x.v)) := hc4 1 (by omega)
      have z2 : W4.cell? ⟨w3.heap.size, 2, none⟩ = some (.int .i64 (x.off : Nat)) := hc4 2 (by omega)
      have z3 : W4.cell? ⟨w3.heap.size, 3, none⟩ = some (.int .i64 (x.at_ : Nat)) := hc4 3 (by omega)
      clear hc4 B4 B5 H3 HG3 HW3 H4 HG4 HW4
      go_upto_region 5 with fail
      rw [← hW4]
      clear hW4
      go_wp2_with (at_builtin; refine wpList_append_krow tgTy encTg_len (by rfl) (.tmp 21) (.tmp 23) (by rfl) w.heap.size _ L (by rfl) HW5.out _ [x] (by rfl) HN.out (fun y hy => by rw [List.mem_singleton.1 hy]; exact encTg_one x) (by simp; omega) hsz5 ?_; intro v6 w6 o6 g6)
      obtain ⟨A6, n6, cap6, rfl⟩ : ∃ A n cap, v6 = .slice A n cap := (by obtain ⟨A, cap, he, _⟩ := KOwn.row encTg_len o6; exact ⟨A, _, cap, he⟩)
      have B6 := Below.grown (Below.refl w.heap.size _) g6 hsz5 (fun q hq => own_ge HW5.out q hq)
      have H6 := Lib.hid (H5.out.belowB B6 hblt)
      have HG6 := Lib.hid (gr_belowB HG5.out B6)
      have HW6 := Lib.hid o6
      clear B6 H5 HG5 HW5 HN o6 g6 z0 z1 z2 z3 hsz5
      refine (HT.out 44 i3 w6 H6.out).mono ?_; rintro e w7 ⟨rfl, g7, i7, hi7, hd7, H7⟩
      rw [Ow.lit1_rest] at hd7
      rw [Ow.lit1_okB]
      have H7 := Lib.hid H7
      have HG7 := Lib.hid (sc_trans HG6.out g7)
      have HW7 := Lib.hid (ko_grown HW6.out g7 hblt)
      have le7 := H7.out.le
      clear g7 H6 HG6 HW6
      by_cases q : (s.drop i3).head? = some 44
      · rw [if_pos q] at hd7 HO3
        rw [decide_eq_true q]
        have hlt7 : i3 < i7 := by
          have := congrArg List.length hd7
          rw [List.length_tail, List.length_drop, List.length_drop] at this
          have h3 : i3 < s.length := by
            apply Nat.lt_of_not_le; intro hle
            rw [List.drop_eq_nil_iff.2 hle] at q; cases q
          omega
        have HO4 := Lib.hid (show o = (Ow.tagsF f s.length (s.drop i7)).map ((L ++ [x]) ++ ·) by
          rw [HO3.out, hd7]
          cases Ow.tagsF f s.length (s.drop i7) <;> simp [Ow.Out.map])
        rw [List.length_drop] at hf
        clear q hd7 HO3
        go_wp2
        go_roundg (s.length - i7)
        case measure => have := HGg.out; omega
        case rel => exact ⟨i7, f, L ++ [x], A6, n6, cap6, rfl, rfl, by omega, by simp; omega, by rw [List.length_drop]; omega, H7, HG7, HW7, HO4⟩
      · rw [if_neg q] at hd7 HO3
        rw [decide_eq_false q]
        have hi73 : i3 = i7 := by
          have := congrArg List.length hd7
          rw [List.length_drop, List.length_drop] at this
          omega
        subst hi73
        clear q hd7
        go_wp2_with fail
        refine (HT.out 125 i3 w7 H7.out).mono ?_; rintro e w8 ⟨rfl, g8, i8, hi8, hd8, H8⟩
        have H8 := Lib.hid H8
        have HG8 := Lib.hid (sc_trans HG7.out g8)
        have HW8 := Lib.hid (ko_grown HW7.out g8 hblt)
        clear g8 H7 HG7 HW7
        have hq8 : Hid (o = (Ow.lit [125] (s.drop i3)).map fun _ => L ++ [x]) := Lib.hid (by rw [HO3.out]; cases Ow.lit [125] (s.drop i3) <;> rfl)
        have hk8 : Hid (Ow.okB o = Ow.okB (Ow.lit [125] (s.drop i3)) ∧ o.rest = s.drop i8 ∧ ∀ M r, o = .ok M r → M = L ++ [x]) := Lib.hid (by
          rw [hq8.out, ← hd8]
          cases Ow.lit [125] (s.drop i3) with
          | fell r => exact ⟨rfl, rfl, fun M r e => by cases e⟩
          | ok u r => exact ⟨rfl, rfl, fun M r e => by injection e with e1 e2; exact e1.symm⟩)
        clear hq8 hd8 HO3
        go_wp2
        go_ret2
        exact ⟨⟨A6, n6, cap6, L ++ [x], by rw [hk8.out.1]; rfl, HW8.out, fun M r e => (hk8.out.2.2 M r e).symm⟩, HG8.out, i8, by omega, hk8.out.2.1, H8.out⟩

end Go.Proofs.YthniemoganoapaaDoor
