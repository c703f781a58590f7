/- The walk of the law LossyPair. -/
import Derived.Test.YtgdhfmcipaoapaaDoorLossRow
import Derived.Deep.DeepCutAuto
import Derived.Deep.RegionHeld3
import Derived.BigQuiet
import Derived.Laws.Cover1
set_option maxRecDepth 100000
set_option linter.unusedVariables false
set_option linter.unusedSimpArgs false
namespace Go.Proofs.YtgdhfmcipaoapaaDoor
open Go.RowKit

set_option maxHeartbeats 16000000 in
theorem lpair_walk (y : Int) (what : Bool) (v : Value) (n : Nat) (ls : Nat → Co.Bs) (w : World) (hy : 0 ≤ y) (hy2 : y ≤ 255) (hr : StrRow w v n (fun i => str (ls i))) (hT : ChT w) :
    Calls Tryd.prog 4 #[.int .u8 y, .bool what, v] w fun e w' => e = .returned (.bool true) ∧ Below w.heap.size w w' := by
  obtain ⟨a, cap, rfl, h1, h2, h3⟩ := hr
  have HR := Lib.hid (show StrRow w (.slice a n cap) n (fun i => str (ls i)) from ⟨a, cap, rfl, h1, h2, h3⟩)
  have Hcell := Lib.hid h3
  unfold maxLen at h2
  clear h3
  go_enter Tryd.func4, Tryd.ntmps4
  go_wp2_with fail
  refine (lknown_calls _ hT).mono ?_; rintro e w1 ⟨rfl, b1⟩
  have B1 := Lib.hid b1
  clear b1
  by_cases hn : 14 < n
  · have dn : decide ((14 : Int) < (n : Int)) = true := decide_eq_true (by omega)
    have dn' : decide (14 < n) = true := decide_eq_true hn
    go_wp2
    go_ret
    exact ⟨rfl, B1.out⟩
  have dn : decide ((14 : Int) < (n : Int)) = false := decide_eq_false (by omega)
  have dn' : decide (14 < n) = false := decide_eq_false hn
  go_wp2_with fail
  go_loopw [7] (fun s wr => ∃ k : Nat, k ≤ n ∧ s = .int .i64 (k : Nat) ∧ wr = w1 ∧ Hid (∀ i, i < k → (ls i).length ≤ 100)) (fun s _ => n - (intOf s).toNat)
  case atStart => exact ⟨0, by omega, rfl, rfl, fun i hi => absurd hi (by omega)⟩
  case round =>
    obtain ⟨k, hk, rfl, rfl, H⟩ := hrel
    by_cases h : k < n
    · obtain ⟨b, off, rfl, hbs, hcs⟩ := Hcell.out (by omega)
      have c0 := (B1.out.cell (p := ⟨b, off + k, none⟩) hbs).trans (hcs k h).1
      have hlt : decide ((k : Int) < (n : Int)) = true := decide_eq_true (by omega)
      have hlt' : decide (k < n) = true := decide_eq_true h
      have sz := str_size (ls k)
      clear hcs
      by_cases hs : 100 < (ls k).length
      · have ds : decide ((100 : Int) < ((ls k).length : Int)) = true := decide_eq_true (by omega)
        have ds' : decide (100 < (ls k).length) = true := decide_eq_true hs
        go_wp2
        go_ret
        exact ⟨rfl, B1.out⟩
      · have ds : decide ((100 : Int) < ((ls k).length : Int)) = false := decide_eq_false (by omega)
        have ds' : decide (100 < (ls k).length) = false := decide_eq_false hs
        have H2 := Lib.hid (show ∀ i, i < k + 1 → (ls i).length ≤ 100 from fun i hi => by
          by_cases e : i = k
          · rw [e]; omega
          · exact H.out i (by omega))
        go_wp2_with fail
        go_roundw
        case rel => exact ⟨k + 1, h, by go_num, trivial, H2.out⟩
        case measure => simp [intOf]; omega
    · have hlt : decide ((k : Int) < (n : Int)) = false := decide_eq_false (by omega)
      have hlt' : decide (k < n) = false := decide_eq_false h
      have Hs := Lib.hid (show ∀ i, i < n → (ls i).length ≤ 100 from fun i hi => H.out i (by omega))
      clear H
      obtain ⟨P, hP1, hP4, HP⟩ : ∃ P : Int, 1 ≤ P ∧ P ≤ 4 ∧ Hid (1 + y % 4 = P) := ⟨1 + y % 4, by omega, by omega, rfl⟩
      go_upto_region 10 with (fail)
      go_cut [8, 9] (fun sp sw wx => sp = .int .i64 P ∧ sw = .int .i64 0 ∧ wx = wr)
      case first =>
        go_wp2_with fail
        go_meet
        exact ⟨by rw [HP.out], rfl, rfl⟩
      case rest =>
        obtain ⟨rfl, rfl, rfl⟩ := hcut
        obtain ⟨S, hS, HS⟩ : ∃ S : Int, (S = 0 ∨ S = 1) ∧ Hid (S = if what then 1 else 0) := ⟨if what then 1 else 0, by cases what <;> simp, rfl⟩
        go_upto_if 39 with (fail)
        go_cut [9] (fun sw wx => sw = .int .i64 S ∧ wx = wc)
        case first =>
          cases what
          all_goals
            go_wp2_with fail
            go_meet
            exact ⟨by rw [HS.out]; rfl, rfl⟩
        case rest =>
          obtain ⟨rfl, rfl⟩ := hcut
          have HQ := Lib.hid (show 1 ≤ P ∧ P ≤ 4 ∧ (S = 0 ∨ S = 1) from ⟨hP1, hP4, hS⟩)
          clear hP1 hP4 hS HP HS hlt hlt' h hk
          have hc := lcoll_calls P S (.slice a n cap) n (fun i => str (ls i)) wc (by omega) (strRow_keep HR.out B1.out) (fun i hi => by rw [str_size]; have := Hs.out i hi; omega) (hT.below B1.out)
          rw [nms_txs] at hc
          have HO := clash_facts (Co.collO_of (Ch.loss P S) (nms n ls))
          rw [collV_is] at hc
          generalize Co.collO (Ch.loss P S) (nms n ls) = o at *
          generalize pA o = A at *
          generalize pB o = Z at *
          generalize o.isSome = ok at *
          have HO := Lib.hid HO
          go_wp2_with fail
          refine hc.mono ?_; rintro e w2 ⟨rfl, q2⟩
          have B2 := Lib.hid (trans9 B1.out q2)
          clear q2 hc
          have N3 := heap_alloc_new w2 (.cells #[.string (str A), .string (str Z)] 26)
          have B3 := Lib.hid (kp_alloc B2.out (.cells #[.string (str A), .string (str Z)] 26))
          go_wp2_with fail
          generalize w2.alloc (.cells #[.string (str A), .string (str Z)] 26) = w3 at *
          generalize w2.heap.size = bc at *
          have HN := Lib.hid N3
          clear N3 B2 B1
          go_loopw [12, 13, 14] (fun sa sb s wr => ∃ k : Nat, k ≤ n ∧ sa = .bool (memb ls k A) ∧ sb = .bool (memb ls k Z) ∧ s = .int .i64 (k : Nat) ∧ Hid (Below w3.heap.size w3 wr)) (fun _ _ s _ => n - (intOf s).toNat)
          case atStart => exact ⟨0, by omega, rfl, rfl, rfl, Below.refl _ _⟩
          case round =>
            obtain ⟨k, hk, rfl, rfl, rfl, H⟩ := hrel
            by_cases h : k < n
            · obtain ⟨b, off, rfl, hbs, hcs⟩ := Hcell.out (by omega)
              have Hcs := Lib.hid hcs
              have hlt : decide ((k : Int) < (n : Int)) = true := decide_eq_true (by omega)
              have hlt' : decide (k < n) = true := decide_eq_true h
              have h0i : (0 : Int) ≤ (k : Int) := by omega
              have hki : (k : Int) < (n : Int) := by omega
              have c0 := ((trans9 B3.out H.out).cell (p := ⟨b, off + k, none⟩) hbs).trans (hcs k h).1
              have e9 := (H.out.block bc (Array.getElem?_eq_some_iff.1 HN.out).1).trans HN.out
              have k90 : wr.cell? ⟨bc, 0, none⟩ = some (.string (str A)) := by rw [cell_of_row _ _ 0 _ _ _ e9]; rfl
              have k91 : wr.cell? ⟨bc, 1, none⟩ = some (.string (str Z)) := by rw [cell_of_row _ _ 1 _ _ _ e9]; rfl
              have M1 := Lib.hid (memb_succ ls k A)
              have M2 := Lib.hid (memb_succ ls k Z)
              clear e9 hcs
              go_wp2_with fail
              go_upto_region 18 with (fail)
              go_cut [12, 13] (fun sa sb wx => sa = .bool (memb ls (k + 1) A) ∧ sb = .bool (memb ls (k + 1) Z) ∧ Hid (Below w3.heap.size w3 wx))
              case first =>
                cases hA : memb ls k A <;> cases hZ : memb ls k Z
                all_goals
                  have N1 := Lib.hid hA
                  have N2 := Lib.hid hZ
                  clear hA hZ
                  go_quiet (fail)
                  go_wp2_with fail
                  go_meet
                  exact ⟨by rw [M1.out, N1.out]; first | rfl | simp, by rw [M2.out, N2.out]; first | rfl | simp, below_drewN H.out _⟩
              case rest =>
                obtain ⟨rfl, rfl, H2⟩ := hcut
                clear M1 M2 c0 k90 k91 H
                go_wp2_with fail
                go_loopw [15] (fun s wr => ∃ j : Nat, j ≤ n ∧ s = .int .i64 (j : Nat) ∧ Hid (Below w3.heap.size w3 wr)) (fun s _ => n - (intOf s).toNat)
                case atStart => exact ⟨0, by omega, rfl, H2.out⟩
                case round =>
                  obtain ⟨j, hj, rfl, H⟩ := hrel
                  by_cases hjn : j < n
                  · have hlt2 : decide ((j : Int) < (n : Int)) = true := decide_eq_true (by omega)
                    have hlt2' : decide (j < n) = true := decide_eq_true hjn
                    have h0j : (0 : Int) ≤ (j : Int) := by omega
                    have hji : (j : Int) < (n : Int) := by omega
                    have c0 := ((trans9 B3.out H.out).cell (p := ⟨b, off + k, none⟩) hbs).trans (Hcs.out k h).1
                    have c1 := ((trans9 B3.out H.out).cell (p := ⟨b, off + j, none⟩) hbs).trans (Hcs.out j hjn).1
                    have HK := Lib.hid (show (ls k).length ≤ 100 ∧ (ls j).length ≤ 100 from ⟨Hs.out k h, Hs.out j hjn⟩)
                    have HF1 := Lib.hid (fun e => (HO.out.1 e).2.2 k j h hjn)
                    have HF2 := Lib.hid (fun e => (HO.out.2 e).2.2.2.2 k j h hjn)
                    have HC := Lib.hid (show ∀ wr, Below w3.heap.size w3 wr → wr.cell? ⟨bc, 0, none⟩ = some (.string (str A)) ∧ wr.cell? ⟨bc, 1, none⟩ = some (.string (str Z)) from fun wr hb => by
                      have e9 := (hb.block bc (Array.getElem?_eq_some_iff.1 HN.out).1).trans HN.out
                      exact ⟨by rw [cell_of_row _ _ 0 _ _ _ e9]; rfl, by rw [cell_of_row _ _ 1 _ _ _ e9]; rfl⟩)
                    have HT := Lib.hid (show ∀ wr, Below w3.heap.size w3 wr → ChT wr from fun wr hb => hT.below (trans9 B3.out hb))
                    generalize ls k = X at *
                    generalize ls j = Y at *
                    go_upto_region 22 with (fail)
                    go_cut [16, 17] (fun sa sb wx => sa = .string (str X) ∧ sb = .string (str Y) ∧ Hid (Below w3.heap.size w3 wx))
                    case first =>
                      go_quiet (fail)
                      go_wp2_with fail
                      go_meet
                      exact ⟨rfl, rfl, below_drewN H.out _⟩
                    case rest =>
                      obtain ⟨rfl, rfl, H3⟩ := hcut
                      clear c0 c1 H
                      by_cases hXY : X < Y
                      · have d1 : Op.bytesLess X Y = true := by rw [bl_lt]; exact decide_eq_true hXY
                        have n1 := lname_calls P S X wc (by unfold maxLen; have := HK.out.1; omega) (HT.out _ H3.out)
                        have n2 := fun W hb => lname_calls P S Y W (by unfold maxLen; have := HK.out.2; omega) (HT.out W hb)
                        generalize Ch.loss P S X = fx at *
                        generalize Ch.loss P S Y = fy at *
                        by_cases hff : fx = fy
                        · obtain rfl : ok = true := by
                            cases ok with
                            | true => rfl
                            | false => exact absurd hff (HF1.out rfl hXY)
                          obtain ⟨g1, g2⟩ := HF2.out rfl hXY hff
                          subst hff
                          have dA : Op.bytesLess X A = false := by rw [bl_lt]; exact decide_eq_false g1
                          have G2 := Lib.hid g2
                          clear g1 g2 hXY
                          go_wp2_with fail
                          refine n1.mono ?_; rintro e w4 ⟨rfl, q4⟩
                          have H4 := Lib.hid (trans9 H3.out q4)
                          clear n1 q4
                          go_wp2_with fail
                          refine (n2 _ H4.out).mono ?_; rintro e w5 ⟨rfl, q5⟩
                          have H5 := Lib.hid (trans9 H4.out q5)
                          clear n2 q5 H4
                          obtain ⟨k90, k91⟩ := HC.out _ H5.out
                          by_cases hXA : X = A
                          · have dZ : Op.bytesLess Y Z = false := by rw [bl_lt]; exact decide_eq_false (G2.out hXA)
                            have e3 : (X == A) = true := beq_iff_eq.2 hXA
                            clear hXA
                            go_wp2_with fail
                            go_roundw
                            case rel => exact ⟨j + 1, hjn, by go_num, H5.out⟩
                            case measure => simp [intOf]; omega
                          · have e3 : (X == A) = false := beq_eq_false_iff_ne.2 hXA
                            clear hXA
                            go_wp2_with fail
                            go_roundw
                            case rel => exact ⟨j + 1, hjn, by go_num, H5.out⟩
                            case measure => simp [intOf]; omega
                        · have e2 : (fx == fy) = false := beq_eq_false_iff_ne.2 hff
                          have e2' : (fx != fy) = true := by simp [bne, e2]
                          clear hff hXY
                          go_wp2_with fail
                          refine n1.mono ?_; rintro e w4 ⟨rfl, q4⟩
                          have H4 := Lib.hid (trans9 H3.out q4)
                          clear n1 q4
                          go_wp2_with fail
                          refine (n2 _ H4.out).mono ?_; rintro e w5 ⟨rfl, q5⟩
                          have H5 := Lib.hid (trans9 H4.out q5)
                          clear n2 q5 H4
                          go_wp2_with fail
                          go_roundw
                          case rel => exact ⟨j + 1, hjn, by go_num, H5.out⟩
                          case measure => simp [intOf]; omega
                      · have d1 : Op.bytesLess X Y = false := by rw [bl_lt]; exact decide_eq_false hXY
                        clear hXY
                        go_wp2_with fail
                        go_roundw
                        case rel => exact ⟨j + 1, hjn, by go_num, H3.out⟩
                        case measure => simp [intOf]; omega
                  · have hlt2 : decide ((j : Int) < (n : Int)) = false := decide_eq_false (by omega)
                    have hlt2' : decide (j < n) = false := decide_eq_false hjn
                    go_wp2_with fail
                    go_roundw
                    case rel => exact ⟨k + 1, h, rfl, rfl, by go_num, H.out⟩
                    case measure => simp [intOf]; omega
            · obtain rfl : k = n := by omega
              have hlt : decide ((k : Int) < (k : Int)) = false := decide_eq_false (by omega)
              have hlt' : decide (k < k) = false := decide_eq_false (by omega)
              have e9 := (H.out.block bc (Array.getElem?_eq_some_iff.1 HN.out).1).trans HN.out
              have k90 : wr.cell? ⟨bc, 0, none⟩ = some (.string (str A)) := by rw [cell_of_row _ _ 0 _ _ _ e9]; rfl
              have k91 : wr.cell? ⟨bc, 1, none⟩ = some (.string (str Z)) := by rw [cell_of_row _ _ 1 _ _ _ e9]; rfl
              have hbc := (Array.getElem?_eq_some_iff.1 e9).1
              have HBw := Lib.hid (trans9 B3.out H.out)
              clear h hk e9
              cases ok with
              | false =>
                obtain ⟨rfl, rfl, _⟩ := HO.out.1 rfl
                have hq := eqlc_self
                go_wp2_with fail
                go_ret
                exact ⟨rfl, HBw.out⟩
              | true =>
                obtain ⟨g1, g2, g3, g4, _⟩ := HO.out.2 rfl
                have M1 := memb_all g1
                have M2 := memb_all g2
                have HA := Lib.hid (show A.length ≤ 100 ∧ Z.length ≤ 100 from ⟨by obtain ⟨i, hi, rfl⟩ := List.mem_map.1 g1; exact Hs.out i (by simpa using hi), by obtain ⟨i, hi, rfl⟩ := List.mem_map.1 g2; exact Hs.out i (by simpa using hi)⟩)
                rw [M1, M2]
                have dA : Op.bytesLess A Z = true := by rw [bl_lt]; exact decide_eq_true g3
                have HTw := Lib.hid (fun W (hb : Below wr.heap.size wr W) => hT.below (trans9 HBw.out hb))
                have n1 := Lib.hid (fun W hb => lname_calls P S A W (by unfold maxLen; have := HA.out.1; omega) (HTw.out W hb))
                have n2 := Lib.hid (fun W hb => lname_calls P S Z W (by unfold maxLen; have := HA.out.2; omega) (HTw.out W hb))
                rw [← g4] at n2
                generalize Ch.loss P S A = X at *
                clear g1 g2 g3 g4 M1 M2 HO
                have r0 : ∀ x, Below wr.heap.size wr x → x.cell? ⟨bc, 0, none⟩ = some (.string (str A)) := fun x hx => (hx.cell (p := ⟨bc, 0, none⟩) hbc).trans k90
                have r1 : ∀ x, Below wr.heap.size wr x → x.cell? ⟨bc, 1, none⟩ = some (.string (str Z)) := fun x hx => (hx.cell (p := ⟨bc, 1, none⟩) hbc).trans k91
                go_wp2_with fail
                go_region_held3 (fun x => Below wr.heap.size wr x)
                  (((repeat' first | assumption | exact Below.refl _ _ | exact Nat.le_refl _ | apply kp_alloc | apply kp_set | apply Below.drew | omega); done))
                  (first
                    | (go_at_call_of 11 (Value.string (str A)); refine (n1.out _ (by assumption)).mono ?_; rintro e w5 ⟨rfl, b5⟩; have k5 : Below wr.heap.size wr w5 := (by refine trans9 ?_ b5; (repeat' first | assumption | exact Below.refl _ _ | exact Nat.le_refl _ | apply kp_alloc | apply kp_set | apply Below.drew | omega)))
                    | (go_at_call_of 11 (Value.string (str Z)); refine (n2.out _ (by assumption)).mono ?_; rintro e w6 ⟨rfl, b6⟩; have k6 : Below wr.heap.size wr w6 := (by refine trans9 ?_ b6; (repeat' first | assumption | exact Below.refl _ _ | exact Nat.le_refl _ | apply kp_alloc | apply kp_set | apply Below.drew | omega))))
                all_goals
                  go_wp2_with fail
                  go_ret
                  exact ⟨rfl, trans9 HBw.out (by assumption)⟩

end Go.Proofs.YtgdhfmcipaoapaaDoor
