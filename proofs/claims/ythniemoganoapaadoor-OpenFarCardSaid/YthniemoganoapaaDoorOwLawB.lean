/- The walk of the law OpenFar (layer 17). -/
import Derived.Test.YthniemoganoapaaDoorOpO
import Derived.Test.YthniemoganoapaaDoorOwDfaC
set_option maxRecDepth 100000
set_option linter.unusedVariables false
set_option linter.unusedSimpArgs false
namespace Go.Proofs.YthniemoganoapaaDoor
open Go.RowKit
attribute [local go_sem ↓] Go.wp_at_zero Go.wp_at_succ

set_option maxHeartbeats 16000000 in
theorem ofar_walk (s : List UInt8) (v : Value) (n : Nat) (es : Nat → ByteArray) (w : World) (hm : s.length ≤ maxLen) (hv : StrRow w v n es) (hT : OwT w w.heap.size) :
    Calls Tryd.prog 4 #[.string (str s), v] w fun e w' => e = .returned (.bool true) ∧ Below w.heap.size w w' := by
  have hsz := str_size s
  have hk0 := oknown_calls w hT
  have HT := Lib.hid (fun W (hb : Below w.heap.size w W) => hT.up hb)
  have HV := Lib.hid hv
  obtain ⟨a, cap, rfl, hnc, hcm, -⟩ := hv
  unfold maxLen at hm hcm
  by_cases h1 : s.length ≤ 1000
  rotate_left
  · have d1 : decide ((1000 : Int) < (s.length : Int)) = true := decide_eq_true (by omega)
    have d1' : decide (1000 < s.length) = true := decide_eq_true (by omega)
    go_enter Tryd.func4, Tryd.ntmps4
    go_wp2_with fail
    refine hk0.mono ?_; rintro e w1 ⟨rfl, b1⟩
    go_wp2
    go_ret
    exact ⟨rfl, b1⟩
  have d1 : decide ((1000 : Int) < (s.length : Int)) = false := decide_eq_false (by omega)
  have d1' : decide (1000 < s.length) = false := decide_eq_false (by omega)
  by_cases h2 : n ≤ 8
  rotate_left
  · have d2 : decide ((8 : Int) < (n : Int)) = true := decide_eq_true (by omega)
    have d2' : decide (8 < n) = true := decide_eq_true (by omega)
    go_enter Tryd.func4, Tryd.ntmps4
    go_wp2_with fail
    refine hk0.mono ?_; rintro e w1 ⟨rfl, b1⟩
    go_wp2
    go_ret
    exact ⟨rfl, b1⟩
  have d2 : decide ((8 : Int) < (n : Int)) = false := decide_eq_false (by omega)
  have d2' : decide (8 < n) = false := decide_eq_false (by omega)
  have HB0 := Lib.hid (fun W (hb : Below w.heap.size w W) => bad0_calls s W (HT.out W hb) (by omega))
  have HP := Lib.hid (fun k (hk : k ≤ s.length) W (hb : Below w.heap.size w W) => bad0_calls (s.take k) W (HT.out W hb) (by rw [List.length_take]; omega))
  have HF := Lib.hid (fun k (e : List UInt8) (he : e.length ≤ 200) W (hb : Below w.heap.size w W) => bad0_calls (s.take (k + 1) ++ e) W (HT.out W hb) (by rw [List.length_append, List.length_take]; omega))
  obtain ⟨l1, l2⟩ := Ow.bad_le s
  have HFar := Lib.hid (fun k (e : List UInt8) (h : Ow.bad s = ((k : Nat) : Int)) (hk : k < s.length) => Ow.far_byte h hk e)
  have HFr := Lib.hid (fun k (h : Ow.bad s = ((k : Nat) : Int)) => Ow.far_front h)
  obtain ⟨K, hK⟩ : ∃ K, K = Ow.bad s := ⟨_, rfl⟩
  rw [← hK] at HB0 l1 l2 HFar HFr
  have d3 : decide (K < -1) = false := decide_eq_false (by omega)
  have d4 : decide ((s.length : Int) < K) = false := decide_eq_false (by omega)
  clear hK
  by_cases h0 : K < 0
  · have d5 : decide (0 ≤ K) = false := decide_eq_false (by omega)
    have d6 : decide (K < 0) = true := decide_eq_true h0
    clear HFar HFr HP HF
    go_enter Tryd.func4, Tryd.ntmps4
    go_wp2_with fail
    refine hk0.mono ?_; rintro e w1 ⟨rfl, b1⟩
    go_wp2_with fail
    refine (HB0.out w1 b1).mono ?_; rintro e w2 ⟨rfl, b2⟩
    have HB2 := Lib.hid (tr17 b1 b2)
    clear b1 b2
    go_wp2_with fail
    go_loopw [6] (fun v wr => ∃ i : Nat, i ≤ n ∧ v = .int .i64 i ∧ Hid (Below w.heap.size w wr)) (fun v _ => n - (intOf v).toNat)
    case atStart => exact ⟨0, Nat.zero_le _, rfl, HB2⟩
    case round =>
      clear HB2
      obtain ⟨i, hi, rfl, HB⟩ := hrel
      by_cases hin : i < n
      · have d7 : decide ((i : Int) < (n : Int)) = true := decide_eq_true (by omega)
        have d7' : decide (i < n) = true := decide_eq_true hin
        go_wp2
        go_ret
        exact ⟨rfl, HB.out⟩
      · have d7 : decide ((i : Int) < (n : Int)) = false := decide_eq_false (by omega)
        have d7' : decide (i < n) = false := decide_eq_false hin
        go_wp2
        go_ret
        exact ⟨rfl, HB.out⟩
  obtain ⟨k, rfl⟩ : ∃ k : Nat, K = k := ⟨K.toNat, by omega⟩
  have hkl : k ≤ s.length := by omega
  have d5 : decide (0 ≤ (k : Int)) = true := decide_eq_true (by omega)
  have d6 : decide ((k : Int) < 0) = false := decide_eq_false (by omega)
  have d4' : decide (s.length < k) = false := decide_eq_false (by omega)
  have hcut := cut_to s (k : Int) k rfl hkl
  have hF3 := HFr.out k rfl
  have HX : Hid (∀ W, Below w.heap.size w W → Calls Tryd.prog 11 #[.string (str (s.take k))] W fun e w' => (e = .returned (.int .i64 (k : Int)) ∨ e = .returned (.int .i64 (-1))) ∧ Below W.heap.size W w') := Lib.hid (fun W hb => (HP.out k hkl W hb).mono fun e w' ⟨h1, h2⟩ => ⟨by rcases hF3 with h | h <;> rw [h] at h1 <;> first | exact Or.inl h1 | exact Or.inr h1, h2⟩)
  have hFar := HFar.out k
  clear HFar HFr hF3 HP
  by_cases hkk : k < s.length
  rotate_left
  · have d8 : decide ((k : Int) < (s.length : Int)) = false := decide_eq_false (by omega)
    have d8' : decide (k < s.length) = false := decide_eq_false hkk
    clear hFar HF
    go_enter Tryd.func4, Tryd.ntmps4
    go_wp2_with fail
    refine hk0.mono ?_; rintro e w1 ⟨rfl, b1⟩
    go_wp2_with fail
    refine (HB0.out w1 b1).mono ?_; rintro e w2 ⟨rfl, b2⟩
    have HB2 := Lib.hid (tr17 b1 b2)
    clear b1 b2
    go_wp2_with fail
    go_loopw [6] (fun v wr => ∃ i : Nat, i ≤ n ∧ v = .int .i64 i ∧ Hid (Below w.heap.size w wr)) (fun v _ => n - (intOf v).toNat)
    case atStart => exact ⟨0, Nat.zero_le _, rfl, HB2⟩
    case round =>
      clear HB2
      obtain ⟨i, hi, rfl, HB⟩ := hrel
      by_cases hin : i < n
      · have d7 : decide ((i : Int) < (n : Int)) = true := decide_eq_true (by omega)
        have d7' : decide (i < n) = true := decide_eq_true hin
        go_wp2_with fail
        refine (HX.out wr HB.out).mono ?_; rintro e w3 ⟨h3, b3⟩
        have HB3 := Lib.hid (tr17 HB.out b3)
        have ek : ((k : Int) == (k : Int)) = true := beq_iff_eq.2 rfl
        have en : ((-1 : Int) == (k : Int)) = false := beq_eq_false_iff_ne.2 (by omega)
        clear b3 HB
        rcases h3 with rfl | rfl
        · go_wp2
          go_ret
          exact ⟨rfl, HB3.out⟩
        · go_wp2
          go_ret
          exact ⟨rfl, HB3.out⟩
      · have d7 : decide ((i : Int) < (n : Int)) = false := decide_eq_false (by omega)
        have d7' : decide (i < n) = false := decide_eq_false hin
        go_wp2_with fail
        refine (HX.out wr HB.out).mono ?_; rintro e w3 ⟨h3, b3⟩
        have HB3 := Lib.hid (tr17 HB.out b3)
        have ek : ((k : Int) == (k : Int)) = true := beq_iff_eq.2 rfl
        have en : ((-1 : Int) == (k : Int)) = false := beq_eq_false_iff_ne.2 (by omega)
        clear b3 HB
        rcases h3 with rfl | rfl
        · go_wp2
          go_ret
          exact ⟨rfl, HB3.out⟩
        · go_wp2
          go_ret
          exact ⟨rfl, HB3.out⟩
  have d8 : decide ((k : Int) < (s.length : Int)) = true := decide_eq_true (by omega)
  have d8' : decide (k < s.length) = true := decide_eq_true hkk
  have hw : IntKind.i64.wrap ((k : Int) + 1) = (k : Int) + 1 := IntWalk.i64_in _ (by omega)
  have hcut1 := cut_to s ((k : Int) + 1) (k + 1) (by omega) hkk
  have hlt1 : (s.take (k + 1)).length = k + 1 := by rw [List.length_take]; omega
  have HCAT := Lib.hid (fun e (he : e.length ≤ 200) => add_st (s.take (k + 1)) e (by omega))
  have HFar := Lib.hid (fun (e : List UInt8) (he : e.length ≤ 200) W hb => show Calls Tryd.prog 11 #[.string (str (s.take (k + 1) ++ e))] W fun e w' => e = .returned (.int .i64 (k : Int)) ∧ Below W.heap.size W w' by have := HF.out k e he W hb; rw [hFar e rfl hkk] at this; exact this)
  clear hFar HF hlt1
  go_enter Tryd.func4, Tryd.ntmps4
  go_wp2_with fail
  refine hk0.mono ?_; rintro e w1 ⟨rfl, b1⟩
  go_wp2_with fail
  refine (HB0.out w1 b1).mono ?_; rintro e w2 ⟨rfl, b2⟩
  have HB2 := Lib.hid (tr17 b1 b2)
  clear b1 b2
  go_wp2_with fail
  go_loopw [6] (fun v wr => ∃ i : Nat, i ≤ n ∧ v = .int .i64 i ∧ Hid (Below w.heap.size w wr)) (fun v _ => n - (intOf v).toNat)
  case atStart => exact ⟨0, Nat.zero_le _, rfl, HB2⟩
  case round =>
    clear HB2
    obtain ⟨i, hi, rfl, HB⟩ := hrel
    by_cases hin : i < n
    rotate_left
    · have d7 : decide ((i : Int) < (n : Int)) = false := decide_eq_false (by omega)
      have d7' : decide (i < n) = false := decide_eq_false hin
      go_wp2_with fail
      refine (HX.out wr HB.out).mono ?_; rintro e w3 ⟨h3, b3⟩
      have HB3 := Lib.hid (tr17 HB.out b3)
      have ek : ((k : Int) == (k : Int)) = true := beq_iff_eq.2 rfl
      have en : ((-1 : Int) == (k : Int)) = false := beq_eq_false_iff_ne.2 (by omega)
      clear b3 HB
      rcases h3 with rfl | rfl
      · go_wp2
        go_ret
        exact ⟨rfl, HB3.out⟩
      · go_wp2
        go_ret
        exact ⟨rfl, HB3.out⟩
    have d7 : decide ((i : Int) < (n : Int)) = true := decide_eq_true (by omega)
    have d7' : decide (i < n) = true := decide_eq_true hin
    have hi := hin
    obtain ⟨a', cap', he, -, -, hrow⟩ := srow_keep HV.out HB.out
    obtain ⟨rfl, -, rfl⟩ := Value.slice.inj he
    obtain ⟨b, off, rfl, hlt, hc⟩ := hrow (by omega)
    obtain ⟨hci, hsi⟩ := hc i hin
    obtain ⟨E, hE⟩ := text_is (es i)
    rw [hE] at hci hsi
    have hEs := str_size E
    have hwi : IntKind.i64.wrap ((i : Int) + 1) = ((i + 1 : Nat) : Int) := by rw [show (i : Int) + 1 = ((i + 1 : Nat) : Int) by omega]; exact IntWalk.i64_in _ (by omega)
    have HC := Lib.hid (show True ∧ ∀ x, Below wr.heap.size wr x → x.cell? ⟨b, off + i, none⟩ = some (.string (str E)) from ⟨trivial, fun x hx => (hx.cell (p := ⟨b, off + i, none⟩) hlt).trans hci⟩)
    clear hrow hc hci he hsi hE
    by_cases h200 : E.length ≤ 200
    · have d9 : decide ((E.length : Int) ≤ 200) = true := decide_eq_true (by omega)
      have d9' : decide (E.length ≤ 200) = true := decide_eq_true h200
      have hcat := HCAT.out E h200
      have hF := Lib.hid (HFar.out E h200)
      clear HFar HCAT
      go_upto_region 11 with fail
      refine wp_region_noPanic ?_
      refine wp_region_held_drew (S := fun X => Below wr.heap.size wr X) (by kernel_rfl) ?_ (fun hHeld => ?_)
      · exact Below.drew (Below.refl _ _)
      have kB : Below wr.heap.size wr wr.drew := Below.drew (Below.refl _ _)
      clear hHeld
      refine tk9 0 kB ?_
      refine tk9 1 kB ?_
      refine tk9 2 kB ?_
      refine tk9 3 kB ?_ (hy := Or.inl ⟨by rfl, by intro x hSw; (try dsimp only at hSw); have y0 := HC.out.2 x hSw; first | (go_simp; done) | (go_simp; with_reducible rfl)⟩)
      refine tk9 4 kB ?_
      refine tk9 5 kB ?_
      refine tk9 6 kB ?_
      refine tk9 7 kB ?_
      refine tk9 8 kB ?_
      refine tk9 9 kB ?_
      refine tk9 10 kB ?_
      refine tk9 11 kB ?_
      refine tk9 12 kB ?_
      refine tk9 13 kB ?_
      refine tk9 14 kB ?_ (hy := Or.inl ⟨by rfl, by intro x hSw; (try dsimp only at hSw); have y0 := HC.out.2 x hSw; first | (go_simp; done) | (go_simp; with_reducible rfl)⟩)
      refine tk9 15 kB ?_
      refine tk9 17 kB ?_
      refine wpAnyH_ready (rs := [16]) (by kernel_rfl) (by simp) ?_
      refine AllReadyH.cons (by simp only [List.getElem?_toArray, List.getElem?_cons_succ, List.getElem?_cons_zero]; rfl) (fun K hK => ?_) AllReadyH.nil
      try go_simp
      refine (hF.out _ (tr17 HB.out kB)).mono ?_
      rintro e w9 ⟨rfl, b9⟩
      replace kB := tr17 kB b9
      clear b9
      refine hK.out _ _ kB (fun hHeld => ?_)
      clear hK K hHeld
      (try simp only [Act.put, List.setIfInBounds_toArray, List.set_cons_zero, List.set_cons_succ])
      refine tk9 18 kB ?_
      refine tk9 19 kB ?_
      refine wpAnyH_done (by kernel_rfl) ?_ _
      refine NoPanic.normal ?_
      have HBn := Lib.hid (tr17 HB.out kB)
      clear kB
      go_wp2_with fail
      go_roundw
      case rel => exact ⟨i + 1, hi, by go_num, HBn⟩
      case measure => simp [intOf]; omega
    · have d9 : decide ((E.length : Int) ≤ 200) = false := decide_eq_false (by omega)
      have d9' : decide (E.length ≤ 200) = false := decide_eq_false h200
      clear HFar HCAT
      go_upto_region 11 with fail
      refine wp_region_noPanic ?_
      refine wp_region_held_drew (S := fun X => Below wr.heap.size wr X) (by kernel_rfl) ?_ (fun hHeld => ?_)
      · exact Below.drew (Below.refl _ _)
      have kB : Below wr.heap.size wr wr.drew := Below.drew (Below.refl _ _)
      clear hHeld
      refine tk9 0 kB ?_
      refine tk9 1 kB ?_
      refine tk9 2 kB ?_
      refine tk9 3 kB ?_ (hy := Or.inl ⟨by rfl, by intro x hSw; (try dsimp only at hSw); have y0 := HC.out.2 x hSw; first | (go_simp; done) | (go_simp; with_reducible rfl)⟩)
      refine tk9 4 kB ?_
      refine tk9 5 kB ?_
      refine tk9 6 kB ?_
      refine tk9 7 kB ?_ (v := undef) (hy := Or.inr ⟨by rfl, rfl⟩)
      refine tk9 8 kB ?_ (v := undef) (hy := Or.inr ⟨by rfl, rfl⟩)
      refine tk9 9 kB ?_ (v := undef) (hy := Or.inr ⟨by rfl, rfl⟩)
      refine tk9 10 kB ?_ (v := undef) (hy := Or.inr ⟨by rfl, rfl⟩)
      refine tk9 11 kB ?_ (v := undef) (hy := Or.inr ⟨by rfl, rfl⟩)
      refine tk9 12 kB ?_ (v := undef) (hy := Or.inr ⟨by rfl, rfl⟩)
      refine tk9 13 kB ?_ (v := undef) (hy := Or.inr ⟨by rfl, rfl⟩)
      refine tk9 14 kB ?_ (v := undef) (hy := Or.inr ⟨by rfl, rfl⟩)
      refine tk9 15 kB ?_ (v := undef) (hy := Or.inr ⟨by rfl, rfl⟩)
      refine tk9 16 kB ?_ (v := undef) (hy := Or.inr ⟨by rfl, rfl⟩)
      refine tk9 17 kB ?_ (v := undef) (hy := Or.inr ⟨by rfl, rfl⟩)
      refine tk9 18 kB ?_ (v := undef) (hy := Or.inr ⟨by rfl, rfl⟩)
      refine tk9 19 kB ?_
      refine wpAnyH_done (by kernel_rfl) ?_ _
      refine NoPanic.normal ?_
      have HBn := Lib.hid (tr17 HB.out kB)
      clear kB
      go_wp2_with fail
      go_roundw
      case rel => exact ⟨i + 1, hi, by go_num, HBn⟩
      case measure => simp [intOf]; omega

end Go.Proofs.YthniemoganoapaaDoor
