/- The walk of the law DecForms. -/
import Derived.Test.YtcohonpbifdnjaaDoorDecLawA
import Derived.Test.YtcohonpbifdnjaaDoorDecLawB
namespace Go.Proofs.YtcohonpbifdnjaaDoor
open Go.RowKit Dc
attribute [local go_sem ↓] Go.wp_at_zero Go.wp_at_succ

theorem forms_eq (sg d e : List UInt8) (a b : Nat) :
    sg ++ List.replicate a 48 ++ (d ++ dot e) ++ (if e = [] ∧ 0 < b then [46] else []) ++ List.replicate b 48 = sg ++ (List.replicate a 48 ++ d) ++ dot (e ++ List.replicate b 48) := by
  by_cases he : e = []
  · subst he
    by_cases hb : 0 < b
    · rw [if_pos ⟨rfl, hb⟩]
      have : dot (([] : List UInt8) ++ List.replicate b 48) = 46 :: List.replicate b 48 := by
        unfold dot; rw [if_neg (by simp; omega)]; rfl
      rw [this]; simp [dot]
    · obtain rfl : b = 0 := by omega
      simp [dot]
  · rw [if_neg (fun h => he h.1)]
    have h1 : dot (e ++ List.replicate b 48) = 46 :: (e ++ List.replicate b 48) := by unfold dot; rw [if_neg (by simp [he])]
    have h2 : dot e = 46 :: e := by unfold dot; rw [if_neg he]
    rw [h1, h2]; simp

set_option maxRecDepth 100000 in
set_option maxHeartbeats 4000000 in
theorem forms_walk (m x y z : Int) (w : World) (hm : -9223372036854775808 ≤ m) (hm2 : m ≤ 9223372036854775807) (hx : 0 ≤ x) (hx2 : x ≤ 255) (hy : 0 ≤ y) (hy2 : y ≤ 255) (hz : 0 ≤ z) (hz2 : z ≤ 255) :
    Calls Tryd.prog 5 #[.int .i64 m, .int .u8 x, .int .u8 y, .int .u8 z] w fun e w' => e = .returned (.bool true) ∧ Below w.heap.size w w' := by
  have nx := Lib.hid (fun W => norm_calls m (x % 19) W hm hm2 (by omega))
  have ox := Lib.hid (fun h => decOf_none_min (s := x % 19) hm hm2 (by omega) (by omega) h)
  go_enter Tryd.func5, Tryd.ntmps5
  go_wp2_with fail
  refine (known_calls _).mono ?_; rintro e w1 ⟨rfl, b1⟩
  go_wp2_with fail
  refine (nx.out _).mono ?_; rintro e w2 ⟨rfl, b2⟩
  have B2 := Lib.hid (trans9 b1 b2)
  clear b1 b2 nx
  cases hox : decOf (decide (m < 0)) m.natAbs (x % 19) with
  | none =>
    have hmin := ox.out hox
    have hmb : (m == -9223372036854775808) = true := by rw [hmin]; rfl
    clear ox hox hmin
    rw [show normV none = Value.tuple #[dv2 0 0, .bool false] from rfl]
    go_wp2_with fail
    go_ret
    exact ⟨rfl, kb_alloc B2.out (Nat.le_refl _) _⟩
  | some r =>
    obtain ⟨a, k⟩ := r
    rw [show normV (some (a, k)) = Value.tuple #[dv2 a k, .bool true] from rfl]
    obtain ⟨ga, la, _⟩ := decOf_is hox
    have D2 := DecAt.new w2 a (k : Int)
    have B3 := Lib.hid (kb_alloc B2.out (Nat.le_refl _) (.cells #[.int .i64 a, .int .i64 (k : Int)] 23))
    have ca := Lib.hid (fun W => print_calls a (k : Int) W (by unfold big at la; omega) (by unfold big at la; omega))
    obtain ⟨D, hD, hDne, hpr, hval⟩ := printL_is a (k : Int) ga
    have hpl := printL_len a (k : Int) la
    have hpa := Lib.hid (fun A B => parse_noughts a (k : Int) la ga A B D hD hDne hval)
    have hdl : dl a.natAbs (k : Int).toNat = [] ↔ k = 0 := by
      rw [← List.length_eq_zero_iff, dl_len]; omega
    have Hdl := Lib.hid hdl
    rw [hpr] at ca hpl
    have hmaxA : ∃ A : Nat, A ≤ 8 ∧ y % 9 = (A : Int) := ⟨(y % 9).toNat, by omega, by omega⟩
    have hmaxB : ∃ A : Nat, A ≤ 4 ∧ z % 5 = (A : Int) := ⟨(z % 5).toNat, by omega, by omega⟩
    obtain ⟨A, hA, hAy⟩ := hmaxA
    obtain ⟨Bn, hBn, hBz⟩ := hmaxB
    clear hox ox B2 hD hval hpr hdl hx hx2 ga
    have hsgl : (sgn (decide (a < 0))).length ≤ 1 := by unfold sgn; split <;> simp
    have hbody : (D ++ dot (dl a.natAbs (k : Int).toNat)).length ≤ 40 := by rw [List.length_append] at hpl; omega
    have hsg : Hid (a < 0 → sgn (decide (a < 0)) = [45]) := fun h => by rw [decide_eq_true h]; rfl
    have hsg0 : Hid (¬ a < 0 → sgn (decide (a < 0)) = []) := fun h => by rw [decide_eq_false h]; rfl
    generalize dl a.natAbs (k : Int).toNat = E at *
    generalize hB : D ++ dot E = body at *
    have HBd := Lib.hid hB
    clear hB la
    generalize hS : sgn (decide (a < 0)) = sg0 at *
    clear hS
    go_wp2_with fail
    refine (ca.out _).mono ?_; rintro e w3 ⟨rfl, b3⟩
    generalize w2.alloc (.cells #[.int .i64 a, .int .i64 (k : Int)] 23) = W2 at *
    generalize w2.heap.size = z2 at *
    have D3 := D2.below b3
    have B4 := Lib.hid (B3.out.trans (b3.mono B3.out.size))
    have c0 := D3.c0
    have c1 := D3.c1
    have D3' := Lib.hid D3
    clear b3 B3 D2 ca D3
    go_upto_if 36 with (fail)
    go_cut [11, 12] (fun s11 s12 wx => s11 = .string (str body) ∧ s12 = .string (str sg0) ∧ Hid (Below w3.heap.size w3 wx))
    case first =>
      by_cases hn : a < 0
      · have hs := hsg.out hn
        have hsl : ∀ W, (Instr.slice 9 (.string (str (sg0 ++ body))) (some (.int .i64 1)) none none).run Tryd.prog W = .ok (.string (str body)) W := fun W => by
          rw [cut_from (sg0 ++ body) 1 1 rfl (by rw [hs]; simp) W, hs]; rfl
        have hsz := str_size (sg0 ++ body)
        have hL : ∃ L : Nat, (sg0 ++ body).length = L + 1 := ⟨body.length, by rw [hs]; simp⟩
        obtain ⟨L, hL⟩ := hL
        rw [hL] at hsz
        have Hs := Lib.hid hs
        have h1 : ¬ ((L + 1 : Nat) : Int) < 1 := by omega
        have h2 : (1 : Int) ≤ ((L + 1 : Nat) : Int) := by omega
        clear hs hL
        generalize str (sg0 ++ body) = P at *
        go_wp2_with fail
        go_region
        all_goals go_wp2_with fail
        all_goals go_meet
        all_goals exact ⟨rfl, by rw [Hs.out], Below.drew (Below.refl _ _)⟩
      · have hs := Lib.hid (hsg0.out (by omega))
        rw [show sg0 ++ body = body by rw [hs.out]; rfl]
        go_wp2_with fail
        go_meet
        exact ⟨rfl, by rw [hs.out], Below.refl _ _⟩
    case rest =>
      obtain ⟨rfl, rfl, HB⟩ := hcut
      have D4 := D3'.out.below HB.out
      have B5 := Lib.hid (B4.out.trans (HB.out.mono B4.out.size))
      have D4' := Lib.hid D4
      clear c0 c1 D3' B4 HB D4 hsg hsg0 hpl
      go_wp2_with fail
      go_loop [12, 13] (fun s12 s13 => ∃ i : Nat, i ≤ A ∧ s13 = .int .i64 (i : Nat) ∧ s12 = .string (str (sg0 ++ List.replicate i 48))) (fun _ s13 => A - (intOf s13).toNat)
      case atStart => exact ⟨0, by omega, rfl, by simp⟩
      case round =>
        obtain ⟨i, hi, rfl, rfl⟩ := hrel
        have hrl : (sg0 ++ List.replicate i 48).length ≤ 20 := by rw [List.length_append, List.length_replicate]; omega
        by_cases hiA : i < A
        · have ha := add_str (sg0 ++ List.replicate i 48) [48] (by rw [List.length_singleton]; omega)
          have Ha : ∀ W : World, (Op.stringOp .add (str (sg0 ++ List.replicate i 48)) ⟨#[48]⟩).run Tryd.prog W = .ok (.string (str (sg0 ++ List.replicate (i + 1) 48))) W := fun W => by
            rw [List.replicate_succ', ← List.append_assoc]; exact ha W
          clear ha hrl
          generalize str (sg0 ++ List.replicate i 48) = T at *
          generalize hT2 : str (sg0 ++ List.replicate (i + 1) 48) = T2 at *
          have HT2 := Lib.hid hT2
          clear hT2
          go_wp2_with fail
          go_round
          case rel => exact ⟨i + 1, by omega, by go_num, by rw [HT2.out]⟩
          case measure => simp [intOf]; omega
        · obtain rfl : i = A := by omega
          have ha := add_str (sg0 ++ List.replicate i 48) body (by omega)
          have c0 := D4'.out.c0
          have c1 := D4'.out.c1
          have htl : (sg0 ++ List.replicate i 48 ++ body).length ≤ 60 := by rw [List.length_append]; omega
          clear hrl
          generalize hT : sg0 ++ List.replicate i 48 = T at *
          generalize hT2 : T ++ body = T2 at *
          have HT := Lib.hid hT
          have HT2 := Lib.hid hT2
          clear hT hT2
          go_upto_region 15 with (fail)
          go_cut [61] (fun s61 wx => s61 = .bool (decide (k = 0 ∧ 0 < Bn)) ∧ wx = wc)
          case first =>
            by_cases hk : k = 0
            · have hkb : ((k : Int) == 0) = true := by rw [hk]; rfl
              by_cases hb : 0 < Bn
              · have hd : decide (k = 0 ∧ 0 < Bn) = true := decide_eq_true ⟨hk, hb⟩
                have Hd := Lib.hid hd
                clear hd hk
                go_wp2_with fail
                go_meet
                exact ⟨by rw [Hd.out], rfl⟩
              · have hd : decide (k = 0 ∧ 0 < Bn) = false := decide_eq_false (fun e => hb e.2)
                have Hd := Lib.hid hd
                clear hd hk
                go_wp2_with fail
                go_meet
                exact ⟨by rw [Hd.out], rfl⟩
            · have hkb : ((k : Int) == 0) = false := by simpa using (by omega : ¬ (k : Int) = 0)
              have hd : decide (k = 0 ∧ 0 < Bn) = false := decide_eq_false (fun e => hk e.1)
              have Hd := Lib.hid hd
              clear hd hk
              go_wp2_with fail
              go_meet
              exact ⟨by rw [Hd.out], rfl⟩
          case rest =>
            obtain ⟨rfl, rfl⟩ := hcut
            clear c0 c1 ha
            go_upto_if 61 with (fail)
            have htx : Hid (∀ b, b ≤ Bn → T2 ++ (if k = 0 ∧ 0 < Bn then [46] else []) ++ List.replicate Bn 48 = sg0 ++ (List.replicate i 48 ++ D) ++ dot (E ++ List.replicate Bn 48)) := by
              intro _ _
              have h := forms_eq sg0 D E i Bn
              rw [HBd.out, HT.out, HT2.out] at h
              rw [← h]
              by_cases hk : k = 0
              · have he := Hdl.out.2 hk
                by_cases hb : 0 < Bn
                · rw [if_pos ⟨hk, hb⟩, if_pos ⟨he, hb⟩]
                · rw [if_neg (fun e => hb e.2), if_neg (fun e => hb e.2)]
              · rw [if_neg (fun e => hk e.1), if_neg (fun e => hk (Hdl.out.1 e.1))]
            go_cut [12] (fun s12 wx => s12 = .string (str (T2 ++ (if k = 0 ∧ 0 < Bn then [46] else []))) ∧ wx = wc)
            case first =>
              by_cases hd : k = 0 ∧ 0 < Bn
              · have hd' := decide_eq_true hd
                have ha : ∀ W : World, (Op.stringOp .add (str T2) ⟨#[46]⟩).run Tryd.prog W = .ok (.string (str (T2 ++ [46]))) W := add_str T2 [46] (by rw [List.length_singleton]; omega)
                have Hd := Lib.hid hd
                clear hd
                go_wp2_with fail
                go_meet
                exact ⟨by rw [if_pos Hd.out], rfl⟩
              · have hd' := decide_eq_false hd
                have Hd := Lib.hid hd
                clear hd
                go_wp2_with fail
                go_meet
                exact ⟨by rw [if_neg Hd.out, List.append_nil], rfl⟩
            case rest =>
              obtain ⟨rfl, rfl⟩ := hcut
              have htl2 : (T2 ++ (if k = 0 ∧ 0 < Bn then [46] else [])).length ≤ 70 := by
                rw [List.length_append]
                split <;> simp <;> omega
              have Htx := Lib.hid (htx.out 0 (by omega))
              clear htx htl
              generalize T2 ++ (if k = 0 ∧ 0 < Bn then [46] else []) = T3 at *
              clear HT HT2 HBd Hdl
              go_wp2_with fail
              go_loop [12, 14] (fun s12 s14 => ∃ i2 : Nat, i2 ≤ Bn ∧ s14 = .int .i64 (i2 : Nat) ∧ s12 = .string (str (T3 ++ List.replicate i2 48))) (fun _ s14 => Bn - (intOf s14).toNat)
              case atStart => exact ⟨0, by omega, rfl, by simp⟩
              case round =>
                obtain ⟨i2, hi2, rfl, rfl⟩ := hrel
                have hrl : (T3 ++ List.replicate i2 48).length ≤ 80 := by rw [List.length_append, List.length_replicate]; omega
                by_cases hiB : i2 < Bn
                · have ha := add_str (T3 ++ List.replicate i2 48) [48] (by rw [List.length_singleton]; omega)
                  have Ha : ∀ W : World, (Op.stringOp .add (str (T3 ++ List.replicate i2 48)) ⟨#[48]⟩).run Tryd.prog W = .ok (.string (str (T3 ++ List.replicate (i2 + 1) 48))) W := fun W => by
                    rw [List.replicate_succ', ← List.append_assoc]; exact ha W
                  clear ha hrl
                  generalize str (T3 ++ List.replicate i2 48) = T4 at *
                  generalize hT5 : str (T3 ++ List.replicate (i2 + 1) 48) = T5 at *
                  have HT5 := Lib.hid hT5
                  clear hT5
                  go_wp2_with fail
                  go_round
                  case rel => exact ⟨i2 + 1, by omega, by go_num, by rw [HT5.out]⟩
                  case measure => simp [intOf]; omega
                · obtain rfl : i2 = Bn := by omega
                  have hp1 := Lib.hid (parse_calls (T3 ++ List.replicate i2 48) wc (by omega))
                  rw [Htx.out, hpa.out, show parseV ((a, (k : Int)), 0, 0) = Value.tuple #[dv2 a (k : Int), .int .i64 0, .int .i64 0] from rfl, ← Htx.out] at hp1
                  have D5 := D4'.out
                  clear hrl htl2 Htx hpa D4'
                  generalize T3 ++ List.replicate i2 48 = T4 at *
                  go_wp2_with fail
                  refine hp1.out.mono ?_; rintro e w7 ⟨rfl, b7⟩
                  have D7 := (D5.below b7).alloc (.cells #[.int .i64 a, .int .i64 (k : Int)] 23)
                  have F7 := DecAt.new w7 a (k : Int)
                  have B7 := Lib.hid (kb_alloc (B5.out.trans (b7.mono B5.out.size)) (Nat.le_refl _) (.cells #[.int .i64 a, .int .i64 (k : Int)] 23))
                  have x0 := D7.c0
                  have x1 := D7.c1
                  have y0 := F7.c0
                  have y1 := F7.c1
                  have q1 := fun W => eql_dec a (k : Int) a (k : Int) W
                  rw [decide_eq_true (⟨rfl, rfl⟩ : a = a ∧ (k : Int) = (k : Int))] at q1
                  clear b7 B5 D5 hp1 D7 F7
                  go_wp2_with fail
                  go_ret
                  exact ⟨rfl, B7.out⟩

end Go.Proofs.YtcohonpbifdnjaaDoor
