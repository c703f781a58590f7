/- The walks of the reference's amount, within, decimal, Norm. -/
import Derived.Test.YtmbpldnclnahmaaDoorRefDecB
set_option linter.unusedVariables false
set_option linter.unusedSimpArgs false
namespace Go.Proofs.YtmbpldnclnahmaaDoor
open Go.RowKit Dc

set_option maxHeartbeats 1000000 in
theorem ramount_calls (m : Int) (w : World) (h1 : -9223372036854775808 ≤ m) (h2 : m ≤ 9223372036854775807) :
    Calls Tryd.prog 37 #[.int .i64 m] w fun e w' => ∃ v, e = .returned v ∧ DR w' v (digs m.natAbs) ∧ Below w.heap.size w w' := by
  have hc := rdigits_calls m.natAbs w (by omega)
  by_cases h0 : m < 0
  · have hc' : Calls Tryd.prog 41 #[.int .u64 (-(m + 1) + 1)] w fun e w' => ∃ v, e = .returned v ∧ DR w' v (digs m.natAbs) ∧ Below w.heap.size w w' := by
      rwa [show ((m.natAbs : Nat) : Int) = -(m + 1) + 1 by omega] at hc
    have Hc := Lib.hid hc'
    clear hc hc'
    go_enter Tryd.func37, Tryd.ntmps37
    go_wp2_with fail
    refine Hc.out.mono ?_; rintro e w1 ⟨v, rfl, d1, b1⟩
    go_wp2
    go_ret
    exact ⟨v, rfl, d1, b1⟩
  · have hc' : Calls Tryd.prog 41 #[.int .u64 m] w fun e w' => ∃ v, e = .returned v ∧ DR w' v (digs m.natAbs) ∧ Below w.heap.size w w' := by
      rwa [show ((m.natAbs : Nat) : Int) = m by omega] at hc
    have Hc := Lib.hid hc'
    clear hc hc'
    go_enter Tryd.func37, Tryd.ntmps37
    go_wp2_with fail
    refine Hc.out.mono ?_; rintro e w1 ⟨v, rfl, d1, b1⟩
    go_wp2
    go_ret
    exact ⟨v, rfl, d1, b1⟩

def withinV (t : Nat) : Value := if t ≤ big then .tuple #[.int .i64 (t : Nat), .bool true] else .tuple #[.int .i64 0, .bool false]

set_option maxHeartbeats 2000000 in
theorem rwithin_calls (l : List Nat) (v : Value) (w : World) (hv : DR w v l) (h9 : ∀ d ∈ l, d ≤ 9) (hh : ∀ d t, l = d :: t → d ≠ 0) :
    Calls Tryd.prog 25 #[v] w fun e w' => e = .returned (withinV (valN l)) ∧ Below w.heap.size w w' := by
  have hc := Lib.hid (fun W => rdigits_calls 9223372036854775807 W (by decide))
  have hcmp : Hid (cmpN l (digs 9223372036854775807) = if valN l < big then -1 else if big < valN l then 1 else 0) := by
    show _ = _
    rw [cmpN_val l _ h9 (digs_le _) hh (digs_head _), digs_val]; rfl
  have H9 := Lib.hid h9
  have Hv := Lib.hid hv
  clear h9 hh hv
  go_enter Tryd.func25, Tryd.ntmps25
  go_wp2_with fail
  refine (hc.out _).mono ?_; rintro e w1 ⟨u, rfl, d1, b1⟩
  have hcc := Lib.hid (rcompare_calls l (digs 9223372036854775807) v u w1 (Hv.out.below b1) d1)
  rw [hcmp.out] at hcc
  have B1 := Lib.hid b1
  clear b1 d1 hc hcmp
  go_wp2_with fail
  refine hcc.out.mono ?_; rintro e w2 ⟨rfl, b2⟩
  have B2 := Lib.hid (trans9 B1.out b2)
  have hv2 := Hv.out.below (trans9 B1.out b2)
  clear b2 B1 Hv hcc
  by_cases hb : big < valN l
  · rw [if_neg (by omega), if_pos hb]
    have hw : withinV (valN l) = .tuple #[.int .i64 0, .bool false] := by unfold withinV; rw [if_neg (by omega)]
    have Hw := Lib.hid hw
    clear hw
    go_wp2_with fail
    go_ret2
    exact ⟨by rw [Hw.out]; rfl, B2.out⟩
  · have hi : (if valN l < big then (-1 : Int) else if big < valN l then 1 else 0) = -1 ∨ (if valN l < big then (-1 : Int) else if big < valN l then 1 else 0) = 0 := by
      by_cases h : valN l < big
      · exact Or.inl (if_pos h)
      · right; rw [if_neg h, if_neg hb]
    have hw : withinV (valN l) = .tuple #[.int .i64 (valN l : Nat), .bool true] := by unfold withinV; rw [if_pos (by omega)]
    have Hw := Lib.hid hw
    have hbig : valN l ≤ 9223372036854775807 := by unfold big at hb; omega
    have Hbig := Lib.hid hbig
    clear hw hbig hb
    obtain ⟨A, cap, rfl, h1, h2, h3⟩ := hv2
    have Hl := Lib.hid h3
    unfold maxLen at h2
    clear h3
    generalize hcv : (if valN l < big then (-1 : Int) else if big < valN l then 1 else 0) = cv at *
    have hcv0 : ¬ (0 : Int) < cv := by omega
    have Hi := Lib.hid hi
    clear hcv hi
    go_wp2_with fail
    go_loop [4, 5] (fun s4 s5 => ∃ i t : Nat, i ≤ l.length ∧ s5 = .int .i64 (i : Nat) ∧ s4 = .int .i64 (t : Nat) ∧ Hid (t = valN (l.take i))) (fun _ s5 => l.length - (intOf s5).toNat)
    case atStart => exact ⟨0, 0, by omega, rfl, rfl, by show _ = _; simp [valN]⟩
    case round =>
      obtain ⟨i, t, hi, rfl, rfl, H⟩ := hrel
      by_cases hil : i < l.length
      · obtain ⟨b, off, rfl, hlt, hc⟩ := Hl.out (by omega)
        have c1 := hc i l[i] (List.getElem?_eq_getElem hil)
        have hst := valN_take_step l i l[i] (List.getElem?_eq_getElem hil)
        have hle := valN_take_le l (i + 1)
        rw [hst, ← H.out] at hle
        have hfit : 10 * t + l[i] ≤ 9223372036854775807 := by have := Hbig.out; omega
        have Hst := Lib.hid hst
        clear hc hst hle
        generalize l[i] = d at *
        have hwrap : (t : Int) * 10 ≤ 9223372036854775807 := by omega
        go_wp2_with fail
        go_round
        case rel => exact ⟨i + 1, 10 * t + d, hil, by go_num, by go_num, by show _ = _; rw [Hst.out, ← H.out]⟩
        case measure => simp [intOf]; omega
      · have hend : t = valN l := by rw [H.out, List.take_of_length_le (by omega)]
        have Hend := Lib.hid hend
        clear hend
        go_wp2_with fail
        go_ret2
        exact ⟨by rw [Hw.out, ← Hend.out]; rfl, B2.out⟩

end Go.Proofs.YtmbpldnclnahmaaDoor
