/- The walk of the reference's Escape (layer 13). -/
import Derived.Test.YtaiolkeiabhcpaaDoorEscA
import Derived.Test.YtaiolkeiabhcpaaDoorEscB
import Derived.Test.YtaiolkeiabhcpaaDoorRefChA
import Derived.BigQuiet
set_option maxRecDepth 100000
set_option linter.unusedVariables false
set_option linter.unusedSimpArgs false
namespace Go.Proofs.YtaiolkeiabhcpaaDoor
open Go.RowKit

theorem hex_cut : ∀ (k : Nat) (h : k < 16) (W : World), (Instr.slice 9 (.string ⟨#[48, 49, 50, 51, 52, 53, 54, 55, 56, 57, 97, 98, 99, 100, 101, 102]⟩) (some (.int .u8 (k : Int))) (some (.int .u8 ((k : Int) + 1))) none).run Tryd.prog W = .ok (.string (str [Ch.hexD k])) W
  | 0, _ => fun _ => by kernel_rfl
  | 1, _ => fun _ => by kernel_rfl
  | 2, _ => fun _ => by kernel_rfl
  | 3, _ => fun _ => by kernel_rfl
  | 4, _ => fun _ => by kernel_rfl
  | 5, _ => fun _ => by kernel_rfl
  | 6, _ => fun _ => by kernel_rfl
  | 7, _ => fun _ => by kernel_rfl
  | 8, _ => fun _ => by kernel_rfl
  | 9, _ => fun _ => by kernel_rfl
  | 10, _ => fun _ => by kernel_rfl
  | 11, _ => fun _ => by kernel_rfl
  | 12, _ => fun _ => by kernel_rfl
  | 13, _ => fun _ => by kernel_rfl
  | 14, _ => fun _ => by kernel_rfl
  | 15, _ => fun _ => by kernel_rfl
  | k + 16, h => absurd h (by omega)
theorem cut_one (l : List UInt8) (k : Nat) (h : k < l.length) (W : World) : (Instr.slice 9 (.string (str l)) (some (.int .i64 (k : Int))) (some (.int .i64 ((k : Int) + 1))) none).run Tryd.prog W = .ok (.string (str [l[k]])) W := by
  rw [run_slice_string W 9 (str l) .i64 .i64 (k : Int) ((k : Int) + 1) Tryd.underlying9 (by omega) (by omega) (by rw [str_size]; omega)]
  congr 2
  refine str_ext ?_
  rw [ext_list, show (k : Int).toNat = k by omega, show ((k : Int) + 1).toNat = k + 1 by omega, show (str l).data.toList = l from rfl, List.take_succ_eq_append_getElem h, List.drop_left' (by rw [List.length_take]; omega)]
namespace Ch
theorem isX_at {l : List UInt8} {k : Nat} (h : k < l.length) : isX (l.drop k) = (decide (l[k] = 95) && decide (l[k + 1]? = some 120)) := by
  rw [List.drop_eq_getElem_cons h, isX_cons]
  unfold isUx
  rw [List.head?_drop]
end Ch

set_option maxHeartbeats 8000000 in
theorem rescape_calls (p s : Int) (l : List UInt8) (w : World) (hl : l.length ≤ 4194304) :
    Calls Tryd.prog 9 #[.int .i64 p, .int .i64 s, .string (str l)] w fun e w' => e = .returned (.string (str (Ch.esc p s l))) ∧ Below w.heap.size w w' := by
  have hsz := str_size l
  go_enter Tryd.func9, Tryd.ntmps9
  go_wp2_with fail
  go_loopw [7, 8] (fun vo v wr => ∃ (k : Nat) (out : List UInt8), k ≤ l.length ∧ out.length ≤ 4 * k ∧ v = .int .i64 (k : Nat) ∧ vo = .string (str out) ∧ Hid (Ch.esc p s l = out ++ Ch.escL p s (l.take k).getLast? (l.drop k) ∧ Below w.heap.size w wr)) (fun _ v _ => l.length - (intOf v).toNat)
  case atStart => exact ⟨0, [], by omega, by simp, rfl, rfl, rfl, Below.refl _ _⟩
  case round =>
    obtain ⟨k, out, hk, ho, rfl, rfl, H⟩ := hrel
    by_cases h : k < l.length
    · have hk2 : k < (str l).size := by rw [hsz]; exact h
      have hlt : decide ((k : Int) < (l.length : Int)) = true := by simp; omega
      have hlt' : decide (k < l.length) = true := decide_eq_true h
      have hc := rlegal_calls p s l (k : Int) wr (by unfold maxLen; omega)
      rw [Ch.legI_at] at hc
      have hR := Lib.hid (Ch.esc_round p s l k h)
      have hX := Lib.hid (Ch.isX_at h)
      have hone := cut_one l k h
      have hadd1 := add_str out [l[k]] (by simp; omega)
      have hbyte : (str l)[k] = l[k] := rfl
      obtain ⟨n, hn⟩ : ∃ n : Nat, l[k].toNat = n := ⟨_, rfl⟩
      have hn256 : n < 256 := by rw [← hn]; exact l[k].toNat_lt
      have hcut1 := hex_cut (n / 16) (by omega)
      have hcut2 := hex_cut (n % 16) (by omega)
      have hadd2 := add_str [95, 120] [Ch.hexD (n / 16)] (by simp)
      have hadd3 := add_str ([95, 120] ++ [Ch.hexD (n / 16)]) [Ch.hexD (n % 16)] (by simp)
      have hadd4 := add_str out (([95, 120] ++ [Ch.hexD (n / 16)]) ++ [Ch.hexD (n % 16)]) (by simp; omega)
      have hcode := Lib.hid (show Ch.code l[k] = ([95, 120] ++ [Ch.hexD (n / 16)]) ++ [Ch.hexD (n % 16)] by rw [← hn]; rfl)
      have hbn : (l[k].toNat : Int) = (n : Int) := by rw [hn]
      have HN := Lib.hid hn
      rw [show ((n / 16 : Nat) : Int) = (n : Int) / 16 by omega] at hcut1
      rw [show ((n % 16 : Nat) : Int) = (n : Int) % 16 by omega] at hcut2
      generalize Ch.hexD (n / 16) = dx at *
      generalize Ch.hexD (n % 16) = dy at *
      generalize hbx : str [dx] = sx at *
      clear hbx
      generalize hby : str [dy] = sy at *
      clear hby
      generalize str ([95, 120] ++ [dx]) = s2 at *
      have hn95 : (n = 95) ↔ l[k] = 95 := by
        rw [← hn]; constructor
        · intro e; exact UInt8.toNat_inj.1 e
        · intro e; rw [e]; rfl
      have H95 := Lib.hid hn95
      clear hn hn95
      cases hg : Ch.leg p s l k
      · rw [hg] at hc
        have HE := Lib.hid (show Ch.esc p s l = (out ++ Ch.code l[k]) ++ Ch.escL p s (l.take (k + 1)).getLast? (l.drop (k + 1)) by
          rw [H.out.1, hR.out, hg, List.append_assoc]; rfl)
        clear hR hX
        clear hg
        go_wp2_with fail
        refine hc.mono ?_; rintro e w1 ⟨rfl, rfl⟩
        go_wp2_with fail
        go_quiet (fail)
        go_wp2_with fail
        go_roundw
        case rel => exact ⟨k + 1, out ++ Ch.code l[k], h, by rw [List.length_append, Ch.code_len]; omega, by go_num, by rw [hcode.out, ← str_app]; rfl, HE.out, below_drewN H.out.2 _⟩
        case measure => simp [intOf]; omega
      · rw [hg] at hc
        by_cases a1 : n = 95
        · have e1 : decide ((n : Int) = 95) = true := decide_eq_true (by omega)
          have e1' : decide (n = 95) = true := decide_eq_true a1
          have e1b : ((n : Int) == 95) = true := by simp; omega
          have e1c : (n == 95) = true := by simpa using a1
          have HL := Lib.hid (H95.out.1 a1)
          clear a1
          by_cases a2 : k + 1 < l.length
          · have e2 : decide ((k : Int) + 1 < (l.length : Int)) = true := decide_eq_true (by omega)
            have e2' : decide (k + 1 < l.length) = true := decide_eq_true a2
            have hk3 : k + 1 < (str l).size := by rw [hsz]; exact a2
            have hbyte2 : (str l)[k + 1] = l[k + 1] := rfl
            obtain ⟨m, hm⟩ : ∃ m : Nat, l[k + 1].toNat = m := ⟨_, rfl⟩
            have hbm : (l[k + 1].toNat : Int) = (m : Int) := by rw [hm]
            have hm120 : (m = 120) ↔ l[k + 1] = 120 := by
              rw [← hm]; constructor
              · intro e; exact UInt8.toNat_inj.1 e
              · intro e; rw [e]; rfl
            have H120 := Lib.hid hm120
            clear hm hm120
            by_cases a3 : m = 120
            · have e3 : decide ((m : Int) = 120) = true := decide_eq_true (by omega)
              have e3' : decide (m = 120) = true := decide_eq_true a3
              have e3b : ((m : Int) == 120) = true := by simp; omega
              have e3c : (m == 120) = true := by simpa using a3
              have HM := Lib.hid (H120.out.1 a3)
              clear a3
              have hx := Lib.hid (show Ch.isX (l.drop k) = true by rw [hX.out, decide_eq_true HL.out, List.getElem?_eq_getElem a2, HM.out]; rfl)
              have HE := Lib.hid (show Ch.esc p s l = (out ++ Ch.code l[k]) ++ Ch.escL p s (l.take (k + 1)).getLast? (l.drop (k + 1)) by
                rw [H.out.1, hR.out, hg, hx.out, List.append_assoc]; rfl)
              clear hR hX
              clear hg hx
              go_wp2_with fail
              refine hc.mono ?_; rintro e w1 ⟨rfl, rfl⟩
              go_wp2_with fail
              go_quiet (fail)
              go_wp2_with fail
              go_roundw
              case rel => exact ⟨k + 1, out ++ Ch.code l[k], h, by rw [List.length_append, Ch.code_len]; omega, by go_num, by rw [hcode.out, ← str_app]; rfl, HE.out, below_drewN H.out.2 _⟩
              case measure => simp [intOf]; omega
            · have e3 : decide ((m : Int) = 120) = false := decide_eq_false (by omega)
              have e3' : decide (m = 120) = false := decide_eq_false a3
              have e3b : ((m : Int) == 120) = false := beq_eq_false_iff_ne.2 (by omega)
              have e3c : (m == 120) = false := by simpa using a3
              have HM := Lib.hid (fun e => a3 (H120.out.2 e))
              clear a3
              have hx := Lib.hid (show Ch.isX (l.drop k) = false by rw [hX.out, List.getElem?_eq_getElem a2, decide_eq_false (p := some l[k + 1] = some 120) (fun e => HM.out (Option.some.inj e)), Bool.and_false])
              have HE := Lib.hid (show Ch.esc p s l = (out ++ [l[k]]) ++ Ch.escL p s (l.take (k + 1)).getLast? (l.drop (k + 1)) by
                rw [H.out.1, hR.out, hg, hx.out, List.append_assoc]; rfl)
              clear hR hX
              clear hg hx
              go_wp2_with fail
              refine hc.mono ?_; rintro e w1 ⟨rfl, rfl⟩
              go_wp2_with fail
              go_roundw
              case rel => exact ⟨k + 1, out ++ [l[k]], h, by rw [List.length_append]; simp; omega, by go_num, rfl, HE.out, H.out.2⟩
              case measure => simp [intOf]; omega
          · have e2 : decide ((k : Int) + 1 < (l.length : Int)) = false := decide_eq_false (by omega)
            have e2' : decide (k + 1 < l.length) = false := decide_eq_false a2
            have hx := Lib.hid (show Ch.isX (l.drop k) = false by rw [hX.out, List.getElem?_eq_none (by omega)]; simp)
            have HE := Lib.hid (show Ch.esc p s l = (out ++ [l[k]]) ++ Ch.escL p s (l.take (k + 1)).getLast? (l.drop (k + 1)) by
              rw [H.out.1, hR.out, hg, hx.out, List.append_assoc]; rfl)
            clear hR hX
            clear hg hx
            go_wp2_with fail
            refine hc.mono ?_; rintro e w1 ⟨rfl, rfl⟩
            go_wp2_with fail
            go_roundw
            case rel => exact ⟨k + 1, out ++ [l[k]], h, by rw [List.length_append]; simp; omega, by go_num, rfl, HE.out, H.out.2⟩
            case measure => simp [intOf]; omega
        · have e1 : decide ((n : Int) = 95) = false := decide_eq_false (by omega)
          have e1' : decide (n = 95) = false := decide_eq_false a1
          have e1b : ((n : Int) == 95) = false := beq_eq_false_iff_ne.2 (by omega)
          have e1c : (n == 95) = false := by simpa using a1
          have hx := Lib.hid (show Ch.isX (l.drop k) = false by rw [hX.out, decide_eq_false (fun e => a1 (H95.out.2 e)), Bool.false_and])
          have HE := Lib.hid (show Ch.esc p s l = (out ++ [l[k]]) ++ Ch.escL p s (l.take (k + 1)).getLast? (l.drop (k + 1)) by
            rw [H.out.1, hR.out, hg, hx.out, List.append_assoc]; rfl)
          clear hR hX
          clear hg hx
          go_wp2_with fail
          refine hc.mono ?_; rintro e w1 ⟨rfl, rfl⟩
          go_wp2_with fail
          go_roundw
          case rel => exact ⟨k + 1, out ++ [l[k]], h, by rw [List.length_append]; simp; omega, by go_num, rfl, HE.out, H.out.2⟩
          case measure => simp [intOf]; omega
    · have hlt : decide ((k : Int) < (l.length : Int)) = false := by simp; omega
      have hlt' : decide (k < l.length) = false := decide_eq_false h
      have he : k = l.length := by omega
      have HE := Lib.hid (show Ch.esc p s l = out by rw [H.out.1, he, Ch.esc_stop, List.append_nil])
      clear he
      go_wp2
      go_ret
      exact ⟨by rw [HE.out]; rfl, H.out.2⟩

end Go.Proofs.YtaiolkeiabhcpaaDoor
