/- The walk of the law EscapeStays. -/
import Derived.Test.YtaiolkeiabhcpaaDoorEscK
import Derived.Test.YtaiolkeiabhcpaaDoorRefEscA
import Derived.Deep.DeepCutAuto
set_option maxRecDepth 100000
set_option linter.unusedVariables false
set_option linter.unusedSimpArgs false
namespace Go.Proofs.YtaiolkeiabhcpaaDoor
open Go.RowKit

namespace Ch
theorem escN_round (p w : Int) (l : List UInt8) (k : Nat) (hk : k < l.length) :
    escN p w (l.take k).getLast? (l.drop k) = (if leg p w l k && !isX (l.drop k) then 0 else 1) + escN p w (l.take (k + 1)).getLast? (l.drop (k + 1)) := by
  have e1 : l.drop k = l[k] :: l.drop (k + 1) := List.drop_eq_getElem_cons hk
  have e2 : (l.take (k + 1)).getLast? = some l[k] := by
    rw [List.take_succ_eq_append_getElem hk, List.getLast?_append, List.getLast?_singleton, Option.some_or]
  have e3 : leg p w l k = legC p w l[k] (l.take k).getLast?.isSome (midP (l.take k).getLast? (l.drop (k + 1))) := by
    have h := leg_split p w (l.take k) l[k] (l.drop (k + 1))
    rw [← e1, List.take_append_drop, List.length_take, Nat.min_eq_left (Nat.le_of_lt hk)] at h
    exact h
  rw [e2, e3, e1, isX_cons]
  conv => lhs; unfold escN
end Ch

set_option maxHeartbeats 16000000 in
theorem esstays_walk (y : Int) (what : Bool) (s : List UInt8) (w : World) (hy : 0 ≤ y) (hy2 : y ≤ 255) (hms : s.length ≤ maxLen) (hT : ChT w) (hM : MxT w) :
    Calls Tryd.prog 5 #[.int .u8 y, .bool what, .string (str s)] w fun e w' => e = .returned (.bool true) ∧ Below w.heap.size w w' := by
  have szs := str_size s
  unfold maxLen at *
  go_enter Tryd.func5, Tryd.ntmps5
  go_wp2_with fail
  refine (esknown_calls _ hT hM).mono ?_; rintro e w1 ⟨rfl, b1⟩
  have B1 := Lib.hid b1
  clear b1
  by_cases hs : 100 < s.length
  · have ds : decide ((100 : Int) < (s.length : Int)) = true := decide_eq_true (by omega)
    have ds' : decide (100 < s.length) = true := decide_eq_true hs
    go_wp2
    go_ret
    exact ⟨rfl, B1.out⟩
  have ds : decide ((100 : Int) < (s.length : Int)) = false := decide_eq_false (by omega)
  have ds' : decide (100 < s.length) = false := decide_eq_false hs
  obtain ⟨P, hP1, hP4, HP⟩ : ∃ P : Int, 1 ≤ P ∧ P ≤ 4 ∧ Hid (1 + y % 4 = P) := ⟨1 + y % 4, by omega, by omega, rfl⟩
  go_upto_region 5 with (fail)
  go_cut [7, 8] (fun sp sw wx => sp = .int .i64 P ∧ sw = .int .i64 0 ∧ wx = w1)
  case first =>
    go_wp2_with fail
    go_meet
    exact ⟨by rw [HP.out], rfl, rfl⟩
  case rest =>
    obtain ⟨rfl, rfl, rfl⟩ := hcut
    obtain ⟨S, hS, HS⟩ : ∃ S : Int, (S = 0 ∨ S = 1) ∧ Hid (S = if what then 1 else 0) := ⟨if what then 1 else 0, by cases what <;> simp, rfl⟩
    go_upto_if 21 with (fail)
    go_cut [8] (fun sw wx => sw = .int .i64 S ∧ wx = wc)
    case first =>
      cases what
      all_goals
        go_wp2_with fail
        go_meet
        exact ⟨by rw [HS.out]; rfl, rfl⟩
    case rest =>
      obtain ⟨rfl, rfl⟩ := hcut
      have HQ := Lib.hid (show 1 ≤ P ∧ P ≤ 4 ∧ (S = 0 ∨ S = 1) from ⟨hP1, hP4, hS⟩)
      clear hP1 hP4 hS HP HS
      have ea := fun W hW => escape_calls P S s W (by omega) hW
      have k9 := fun W hW hX => back_calls P S s W (by omega) hW hX
      have HL9 := Lib.hid (show (Ch.esc P S s).length = s.length + 3 * Ch.escN P S none s from Ch.escL_len P S s none)
      have HS9 := Lib.hid (Ch.esc_self P S s)
      have HB9 := Lib.hid (Ch.back_esc P S s)
      have sx := str_size (Ch.esc P S s)
      clear HQ
      generalize Ch.esc P S s = X at *
      go_wp2_with fail
      refine (ea _ (hT.below B1.out)).mono ?_; rintro e w2 ⟨rfl, q2⟩
      have B2 := Lib.hid (trans9 B1.out q2)
      clear q2 ea
      go_wp2_with fail
      go_loopw [9, 11] (fun vc v wr => ∃ (k c : Nat), k ≤ s.length ∧ c ≤ k ∧ v = .int .i64 (k : Nat) ∧ vc = .int .i64 (c : Nat) ∧ Hid (Ch.escN P S none s = c + Ch.escN P S (s.take k).getLast? (s.drop k) ∧ Below w.heap.size w wr)) (fun _ v _ => s.length - (intOf v).toNat)
      case atStart => exact ⟨0, 0, by omega, by omega, rfl, rfl, by rw [List.drop_zero, Nat.zero_add]; rfl, B2.out⟩
      case round =>
        obtain ⟨k, c, hk, hck, rfl, rfl, H⟩ := hrel
        by_cases h : k < s.length
        · have hk2 : k < (str s).size := by rw [szs]; exact h
          have hlt : decide ((k : Int) < (s.length : Int)) = true := decide_eq_true (by omega)
          have hlt' : decide (k < s.length) = true := decide_eq_true h
          have hc := chlegal_calls P S s (k : Int) wr (by unfold maxLen; omega) (hT.below H.out.2)
          rw [Ch.legI_at] at hc
          have hR := Lib.hid (Ch.escN_round P S s k h)
          have hX := Lib.hid (Ch.isX_at h)
          have hbyte : (str s)[k] = s[k] := rfl
          obtain ⟨n, hn⟩ : ∃ n : Nat, s[k].toNat = n := ⟨_, rfl⟩
          have hbn : (s[k].toNat : Int) = (n : Int) := by rw [hn]
          have hn95 : (n = 95) ↔ s[k] = 95 := by
            rw [← hn]; constructor
            · intro e; exact UInt8.toNat_inj.1 e
            · intro e; rw [e]; rfl
          have H95 := Lib.hid hn95
          clear hn hn95
          cases hg : Ch.leg P S s k
          · rw [hg] at hc
            have HE := Lib.hid (show Ch.escN P S none s = (c + 1) + Ch.escN P S (s.take (k + 1)).getLast? (s.drop (k + 1)) by rw [H.out.1, hR.out, hg]; simp only [Bool.not_true, Bool.not_false, Bool.and_true, Bool.and_false, Bool.false_and, if_true, if_false, Bool.false_eq_true]; omega)
            clear hR hX hg
            go_wp2_with fail
            refine hc.mono ?_; rintro e w3 ⟨rfl, b3⟩
            have B3 := Lib.hid (trans9 H.out.2 b3)
            clear b3
            go_wp2_with fail
            go_roundw
            case rel => exact ⟨k + 1, c + 1, by omega, by omega, by go_num, by go_num, HE.out, B3.out⟩
            case measure => simp [intOf]; omega
          · rw [hg] at hc
            by_cases a1 : n = 95
            · have e1 : decide ((n : Int) = 95) = true := decide_eq_true (by omega)
              have e1' : decide (n = 95) = true := decide_eq_true a1
              have e1b : ((n : Int) == 95) = true := by simp; omega
              have e1c : (n == 95) = true := by simpa using a1
              have HL := Lib.hid (H95.out.1 a1)
              clear a1
              by_cases a2 : k + 1 < s.length
              · have e2 : decide ((k : Int) + 1 < (s.length : Int)) = true := decide_eq_true (by omega)
                have e2' : decide (k + 1 < s.length) = true := decide_eq_true a2
                have hk3 : k + 1 < (str s).size := by rw [szs]; exact a2
                have hbyte2 : (str s)[k + 1] = s[k + 1] := rfl
                obtain ⟨m, hm⟩ : ∃ m : Nat, s[k + 1].toNat = m := ⟨_, rfl⟩
                have hbm : (s[k + 1].toNat : Int) = (m : Int) := by rw [hm]
                have hm120 : (m = 120) ↔ s[k + 1] = 120 := by
                  rw [← hm]; constructor
                  · intro e; exact UInt8.toNat_inj.1 e
                  · intro e; rw [e]; rfl
                have H120 := Lib.hid hm120
                clear hm hm120
                by_cases a3 : m = 120
                · have e3 : decide ((m : Int) = 120) = true := decide_eq_true (by omega)
                  have e3' : decide (m = 120) = true := decide_eq_true a3
                  have e3b : ((m : Int) == 120) = true := by simp; omega
                  have e3c : (m == 120) = true := by simpa using a3
                  have HM := Lib.hid (H120.out.1 a3)
                  clear a3
                  have hx := Lib.hid (show Ch.isX (s.drop k) = true by rw [hX.out, decide_eq_true HL.out, List.getElem?_eq_getElem a2, HM.out]; rfl)
                  have HE := Lib.hid (show Ch.escN P S none s = (c + 1) + Ch.escN P S (s.take (k + 1)).getLast? (s.drop (k + 1)) by rw [H.out.1, hR.out, hg, hx.out]; simp only [Bool.not_true, Bool.not_false, Bool.and_true, Bool.and_false, Bool.false_and, if_true, if_false, Bool.false_eq_true]; omega)
                  clear hR hX hg hx
                  go_wp2_with fail
                  refine hc.mono ?_; rintro e w3 ⟨rfl, b3⟩
                  have B3 := Lib.hid (trans9 H.out.2 b3)
                  clear b3
                  go_wp2_with fail
                  go_roundw
                  case rel => exact ⟨k + 1, c + 1, by omega, by omega, by go_num, by go_num, HE.out, B3.out⟩
                  case measure => simp [intOf]; omega
                · have e3 : decide ((m : Int) = 120) = false := decide_eq_false (by omega)
                  have e3' : decide (m = 120) = false := decide_eq_false a3
                  have e3b : ((m : Int) == 120) = false := beq_eq_false_iff_ne.2 (by omega)
                  have e3c : (m == 120) = false := by simpa using a3
                  have HM := Lib.hid (fun e => a3 (H120.out.2 e))
                  clear a3
                  have hx := Lib.hid (show Ch.isX (s.drop k) = false by rw [hX.out, List.getElem?_eq_getElem a2, decide_eq_false (p := some s[k + 1] = some 120) (fun e => HM.out (Option.some.inj e)), Bool.and_false])
                  have HE := Lib.hid (show Ch.escN P S none s = (c + 0) + Ch.escN P S (s.take (k + 1)).getLast? (s.drop (k + 1)) by rw [H.out.1, hR.out, hg, hx.out]; simp only [Bool.not_true, Bool.not_false, Bool.and_true, Bool.and_false, Bool.false_and, if_true, if_false, Bool.false_eq_true]; omega)
                  clear hR hX hg hx
                  go_wp2_with fail
                  refine hc.mono ?_; rintro e w3 ⟨rfl, b3⟩
                  have B3 := Lib.hid (trans9 H.out.2 b3)
                  clear b3
                  go_wp2_with fail
                  go_roundw
                  case rel => exact ⟨k + 1, c + 0, by omega, by omega, by go_num, by go_num, HE.out, B3.out⟩
                  case measure => simp [intOf]; omega
              · have e2 : decide ((k : Int) + 1 < (s.length : Int)) = false := decide_eq_false (by omega)
                have e2' : decide (k + 1 < s.length) = false := decide_eq_false a2
                have hx := Lib.hid (show Ch.isX (s.drop k) = false by rw [hX.out, List.getElem?_eq_none (by omega)]; simp)
                have HE := Lib.hid (show Ch.escN P S none s = (c + 0) + Ch.escN P S (s.take (k + 1)).getLast? (s.drop (k + 1)) by rw [H.out.1, hR.out, hg, hx.out]; simp only [Bool.not_true, Bool.not_false, Bool.and_true, Bool.and_false, Bool.false_and, if_true, if_false, Bool.false_eq_true]; omega)
                clear hR hX hg hx
                go_wp2_with fail
                refine hc.mono ?_; rintro e w3 ⟨rfl, b3⟩
                have B3 := Lib.hid (trans9 H.out.2 b3)
                clear b3
                go_wp2_with fail
                go_roundw
                case rel => exact ⟨k + 1, c + 0, by omega, by omega, by go_num, by go_num, HE.out, B3.out⟩
                case measure => simp [intOf]; omega
            · have e1 : decide ((n : Int) = 95) = false := decide_eq_false (by omega)
              have e1' : decide (n = 95) = false := decide_eq_false a1
              have e1b : ((n : Int) == 95) = false := beq_eq_false_iff_ne.2 (by omega)
              have e1c : (n == 95) = false := by simpa using a1
              have hx := Lib.hid (show Ch.isX (s.drop k) = false by rw [hX.out, decide_eq_false (fun e => a1 (H95.out.2 e)), Bool.false_and])
              have HE := Lib.hid (show Ch.escN P S none s = (c + 0) + Ch.escN P S (s.take (k + 1)).getLast? (s.drop (k + 1)) by rw [H.out.1, hR.out, hg, hx.out]; simp only [Bool.not_true, Bool.not_false, Bool.and_true, Bool.and_false, Bool.false_and, if_true, if_false, Bool.false_eq_true]; omega)
              clear hR hX hg hx
              go_wp2_with fail
              refine hc.mono ?_; rintro e w3 ⟨rfl, b3⟩
              have B3 := Lib.hid (trans9 H.out.2 b3)
              clear b3
              go_wp2_with fail
              go_roundw
              case rel => exact ⟨k + 1, c + 0, by omega, by omega, by go_num, by go_num, HE.out, B3.out⟩
              case measure => simp [intOf]; omega
        · have hlt : decide ((k : Int) < (s.length : Int)) = false := decide_eq_false (by omega)
          have hlt' : decide (k < s.length) = false := decide_eq_false h
          have he : k = s.length := by omega
          have hN : Ch.escN P S none s = c := by rw [H.out.1, he, List.drop_length]; rfl
          have hL := HL9.out
          have hS9 := HS9.out
          rw [hN] at hL hS9
          have HLc := Lib.hid hL
          have dl : decide ((X.length : Int) = (s.length : Int) + 3 * (c : Int)) = true := decide_eq_true (by omega)
          have dl' : decide (X.length = s.length + 3 * c) = true := decide_eq_true hL
          have dlb : ((X.length : Int) == (s.length : Int) + 3 * (c : Int)) = true := by simp; omega
          clear he hN hL
          by_cases hc0 : c = 0
          · have hxs : X = s := hS9.2 hc0
            have hbk := HB9.out
            rw [hxs] at hbk
            rw [hbk] at k9
            subst hxs
            subst hc0
            clear hS9 hbk HB9 HL9 HS9
            go_wp2_with fail
            refine (k9 _ (hT.below H.out.2) (hM.below H.out.2)).mono ?_; rintro e w4 ⟨rfl, q4⟩
            have B4 := Lib.hid (trans9 H.out.2 q4)
            clear q4
            go_wp2
            go_ret
            exact ⟨rfl, B4.out⟩
          · have hxs : ¬ X = s := fun e => hc0 (hS9.1 e)
            have e1 : (X == s) = false := beq_eq_false_iff_ne.2 hxs
            have e2 : decide ((0 : Int) < (c : Int)) = true := decide_eq_true (by omega)
            have e2' : decide (0 < c) = true := decide_eq_true (by omega)
            have e3 : decide ((c : Int) = 0) = false := decide_eq_false (by omega)
            have e3' : decide (c = 0) = false := decide_eq_false hc0
            have e3b : ((c : Int) == 0) = false := beq_eq_false_iff_ne.2 (by omega)
            have e3c : (c == 0) = false := by simpa using hc0
            clear hS9 hxs HB9 HL9 HS9 HLc
            go_wp2
            go_ret
            exact ⟨rfl, H.out.2⟩

end Go.Proofs.YtaiolkeiabhcpaaDoor
