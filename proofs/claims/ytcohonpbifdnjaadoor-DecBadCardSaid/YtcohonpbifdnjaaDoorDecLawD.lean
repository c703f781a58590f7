/- The walk of the law DecBad. -/
import Derived.Test.YtcohonpbifdnjaaDoorDecLawA
import Derived.Test.YtcohonpbifdnjaaDoorDecLawB
namespace Go.Proofs.YtcohonpbifdnjaaDoor
open Go.RowKit Dc
attribute [local go_sem ↓] Go.wp_at_zero Go.wp_at_succ

theorem parse_code (l : List UInt8) : (∃ n, cut l = .bad n ∧ n ≤ l.length ∧ parse l = ((0, 0), 11, (n : Int))) ∨ ((∃ neg d e, cut l = .ok neg d e) ∧ ∃ a b c, parse l = ((a, b), c, 0) ∧ c ≠ 11) := by
  cases hc : cut l with
  | bad n => exact Or.inl ⟨n, rfl, cut_bad_le hc, parse_bad hc⟩
  | ok neg d e =>
    refine Or.inr ⟨⟨neg, d, e, rfl⟩, ?_⟩
    rw [parse_ok hc]
    cases decOf neg (valN (vals (d ++ e))) e.length with
    | none => exact ⟨0, 0, 12, rfl, by decide⟩
    | some r => exact ⟨r.1, r.2, 0, rfl, by decide⟩

set_option maxRecDepth 100000 in
set_option maxHeartbeats 2000000 in
theorem bad_walk (x : ByteArray) (v : Value) (N : Nat) (es : Nat → ByteArray) (w : World) (hv : StrRow w v N es) :
    Calls Tryd.prog 6 #[.string x, v] w fun e w' => e = .returned (.bool true) ∧ Below w.heap.size w w' := by
  rw [str_self x]
  generalize x.data.toList = l
  obtain ⟨A, cap, rfl, hnc, hcm, hcell⟩ := hv
  have Hcell := Lib.hid hcell
  have Hcm := Lib.hid hcm
  clear hcell hcm
  have hsz := str_size l
  by_cases hl : 60 < l.length
  · go_enter Tryd.func6, Tryd.ntmps6
    go_wp2_with fail
    refine (known_calls _).mono ?_; rintro e w1 ⟨rfl, b1⟩
    go_wp2_with fail
    go_ret
    exact ⟨rfl, b1⟩
  by_cases hN : 8 < N
  · go_enter Tryd.func6, Tryd.ntmps6
    go_wp2_with fail
    refine (known_calls _).mono ?_; rintro e w1 ⟨rfl, b1⟩
    go_wp2_with fail
    go_ret
    exact ⟨rfl, b1⟩
  have cp := Lib.hid (fun W => parse_calls l W (by omega))
  rcases parse_code l with ⟨n, hbad, hnl, hpar⟩ | ⟨_, a, b, c, hpar, hc⟩
  · rw [hpar] at cp
    have Hbad := Lib.hid hbad
    have hck := cut_of_bad hbad
    have Hck := Lib.hid hck
    clear hpar hbad hck
    rw [show parseV ((0, 0), 11, (n : Int)) = Value.tuple #[dv2 0 0, .int .i64 11, .int .i64 (n : Int)] from rfl] at cp
    go_enter Tryd.func6, Tryd.ntmps6
    go_wp2_with fail
    refine (known_calls _).mono ?_; rintro e w1 ⟨rfl, b1⟩
    go_wp2_with fail
    refine (cp.out _).mono ?_; rintro e w2 ⟨rfl, b2⟩
    have B2 := Lib.hid (kb_alloc (trans9 b1 b2) (Nat.le_refl _) (.cells #[.int .i64 0, .int .i64 0] 23))
    clear b1 b2 cp
    have hlen1 : (l.take n).length = n := by rw [List.length_take]; omega
    have Hlen1 := Lib.hid hlen1
    have s1 := cut_to l (n : Int) n rfl hnl
    have a1 : ∀ W : World, (Op.stringOp .add (str (l.take n)) ⟨#[48]⟩).run Tryd.prog W = .ok (.string (str (l.take n ++ [48]))) W := add_str (l.take n) [48] (by rw [hlen1, List.length_singleton]; omega)
    have cp1 := Lib.hid (fun W => parse_calls (l.take n) W (by omega))
    have cp2 := Lib.hid (fun W => parse_calls (l.take n ++ [48]) W (by rw [List.length_append, hlen1, List.length_singleton]; omega))
    clear hlen1
    have hcodes : Hid ((parse (l.take n)).2.1 ≠ 11 ∨ (parse (l.take n ++ [48])).2.1 ≠ 11) := by
      rcases Hck.out with ⟨neg, d, e, h⟩ | ⟨neg, d, e, h⟩
      · left
        rcases parse_code (l.take n) with ⟨m, h2, _⟩ | ⟨_, a, b, c, h2, h3⟩
        · rw [h] at h2; cases h2
        · rw [h2]; exact h3
      · right
        rcases parse_code (l.take n ++ [48]) with ⟨m, h2, _⟩ | ⟨_, a, b, c, h2, h3⟩
        · rw [h] at h2; cases h2
        · rw [h2]; exact h3
    clear Hck Hlen1
    generalize hr1 : parse (l.take n) = r1 at *
    generalize hr2 : parse (l.take n ++ [48]) = r2 at *
    clear hr1 hr2
    obtain ⟨⟨x1, x2⟩, x3, x4⟩ := r1
    obtain ⟨⟨y1, y2⟩, y3, y4⟩ := r2
    rw [show parseV ((x1, x2), x3, x4) = Value.tuple #[dv2 x1 x2, .int .i64 x3, .int .i64 x4] from rfl] at cp1
    rw [show parseV ((y1, y2), y3, y4) = Value.tuple #[dv2 y1 y2, .int .i64 y3, .int .i64 y4] from rfl] at cp2
    generalize l.take n ++ [48] = L2 at *
    generalize l.take n = L1 at *
    go_wp2_with fail
    generalize w2.alloc (.cells #[.int .i64 0, .int .i64 0] 23) = W2 at *
    refine (cp1.out _).mono ?_; rintro e w3 ⟨rfl, b3⟩
    have B3 := Lib.hid (kb_alloc (B2.out.trans (b3.mono B2.out.size)) (Nat.le_refl _) (.cells #[.int .i64 x1, .int .i64 x2] 23))
    clear B2 b3 cp1
    go_wp2_with fail
    generalize w3.alloc (.cells #[.int .i64 x1, .int .i64 x2] 23) = W3 at *
    refine (cp2.out _).mono ?_; rintro e w4 ⟨rfl, b4⟩
    have B4 := Lib.hid (kb_alloc (B3.out.trans (b4.mono B3.out.size)) (Nat.le_refl _) (.cells #[.int .i64 y1, .int .i64 y2] 23))
    clear B3 b4 cp2 a1 s1
    go_wp2_with fail
    generalize w4.alloc (.cells #[.int .i64 y1, .int .i64 y2] 23) = W4 at *
    go_loopw [14] (fun s14 wr => ∃ i : Nat, i ≤ N ∧ s14 = .int .i64 (i : Nat) ∧ Hid (Below w.heap.size w wr)) (fun s14 _ => N - (intOf s14).toNat)
    case atStart => exact ⟨0, by omega, rfl, B4.out⟩
    case round =>
      obtain ⟨i, hi, rfl, HB⟩ := hrel
      clear B4
      by_cases hgo : i < N ∧ n < l.length
      · obtain ⟨hiN, hnl2⟩ := hgo
        obtain ⟨b, off, rfl, hbs, hcs⟩ := Hcell.out (by omega)
        obtain ⟨e0, hm⟩ := hcs i hiN
        have ei := (HB.out.cell (p := ⟨b, off + i, none⟩) hbs).trans e0
        have hbr := Nat.lt_of_lt_of_le hbs HB.out.size
        have hcm := Hcm.out
        unfold maxLen at hcm
        rw [str_self (es i)] at ei
        generalize (es i).data.toList = e at *
        have hez := str_size e
        clear hcs hm e0
        by_cases h40 : 40 < e.length
        · go_wp2_with fail
          go_roundw
          case rel => exact ⟨i + 1, by omega, by go_num, HB.out⟩
          case measure => simp [intOf]; omega
        · have hpar := parse_bad (cut_front Hbad.out hnl2 e)
          have hlen1 : (l.take (n + 1)).length = n + 1 := by rw [List.length_take]; omega
          have cp := Lib.hid (fun W => parse_calls (l.take (n + 1) ++ e) W (by rw [List.length_append, hlen1]; omega))
          rw [hpar, show parseV ((0, 0), 11, (n : Int)) = Value.tuple #[dv2 0 0, .int .i64 11, .int .i64 (n : Int)] from rfl] at cp
          have kw : IntKind.i64.wrap ((n : Int) + 1) = (n : Int) + 1 := IntWalk.i64_in _ (by omega)
          have hsl := cut_to l ((n : Int) + 1) (n + 1) (by omega) (by omega)
          have hadd := add_str (l.take (n + 1)) e (by rw [hlen1]; omega)
          have hfin : i < cap := by omega
          clear hpar hlen1
          generalize l.take (n + 1) ++ e = L3 at *
          generalize l.take (n + 1) = L4 at *
          go_upto_region 16 with (fail)
          obtain ⟨W1, hW1⟩ : ∃ W1 : World, W1 = wr := ⟨_, rfl⟩
          rw [← hW1] at HB ei hbr ⊢
          clear hW1
          go_cut [16, 17] (fun s16 s17 wx => s16 = .int .i64 11 ∧ s17 = .int .i64 (n : Int) ∧ Hid (Below W1.heap.size W1 wx))
          case first =>
            have r0 : ∀ x, Below W1.heap.size W1 x → x.cell? ⟨b, off + i, none⟩ = some (.string (str e)) := fun x hx => (hx.cell (p := ⟨b, off + i, none⟩) hbr).trans ei
            go_region_held3 (fun x => Below W1.heap.size W1 x)
              (((repeat' first | assumption | exact Below.refl _ _ | exact Nat.le_refl _ | apply kp_alloc | apply kp_set | apply Below.drew | omega); done))
              (first
                | (go_at_call 9; refine (cp.out _).mono ?_; rintro e' w5 ⟨rfl, b5⟩; obtain ⟨c5, f5⟩ := bcell b5; have k5 : Below W1.heap.size W1 w5 := (by refine trans9 ?_ b5; (repeat' first | assumption | exact Below.refl _ _ | exact Nat.le_refl _ | apply kp_alloc | apply kp_set | apply Below.drew | omega)); have y5 := k5.size; have v5 : W1.heap.size < w5.heap.size + 1 := (by omega); have z5 := b5.size; simp at z5; (try have x5 := Nat.lt_of_succ_le z5)))
            all_goals go_wp2_with fail
            all_goals go_meet
            all_goals
              refine ⟨rfl, rfl, ?_⟩
              show Below _ _ _
              (repeat' first | assumption | exact Below.refl _ _ | exact Nat.le_refl _ | apply kp_alloc | apply kp_set | apply Below.drew | omega)
          case rest =>
            obtain ⟨rfl, rfl, HB1⟩ := hcut
            have HB2 := Lib.hid (HB.out.trans (HB1.out.mono HB.out.size))
            clear HB HB1 hsl hadd cp ei
            go_wp2_with fail
            go_roundw
            case rel => exact ⟨i + 1, by omega, by go_num, HB2.out⟩
            case measure => simp [intOf]; omega
      · have hcase : N ≤ i ∨ (i < N ∧ l.length ≤ n) := by omega
        rcases hcase with hge | ⟨hlt, hge⟩
        · have hge' : ¬ i < N := by omega
          by_cases hx3 : x3 = 11
          · have hy3 : y3 ≠ 11 := fun e => hcodes.out.elim (fun h => h hx3) (fun h => h e)
            have g1 : (x3 != 11) = false := by rw [hx3]; rfl
            have g2 : (y3 != 11) = true := by simpa using hy3
            go_wp2_with fail
            go_ret
            exact ⟨rfl, HB.out⟩
          · have g1 : (x3 != 11) = true := by simpa using hx3
            go_wp2_with fail
            go_ret
            exact ⟨rfl, HB.out⟩
        · have hge' : ¬ n < l.length := by omega
          by_cases hx3 : x3 = 11
          · have hy3 : y3 ≠ 11 := fun e => hcodes.out.elim (fun h => h hx3) (fun h => h e)
            have g1 : (x3 != 11) = false := by rw [hx3]; rfl
            have g2 : (y3 != 11) = true := by simpa using hy3
            go_wp2_with fail
            go_ret
            exact ⟨rfl, HB.out⟩
          · have g1 : (x3 != 11) = true := by simpa using hx3
            go_wp2_with fail
            go_ret
            exact ⟨rfl, HB.out⟩
  · rw [hpar, show parseV ((a, b), c, 0) = Value.tuple #[dv2 a b, .int .i64 c, .int .i64 0] from rfl] at cp
    have g1 : (c != 11) = true := by simpa using hc
    clear hpar hc
    go_enter Tryd.func6, Tryd.ntmps6
    go_wp2_with fail
    refine (known_calls _).mono ?_; rintro e w1 ⟨rfl, b1⟩
    go_wp2_with fail
    refine (cp.out _).mono ?_; rintro e w2 ⟨rfl, b2⟩
    go_wp2_with fail
    go_ret
    exact ⟨rfl, kb_alloc (trans9 b1 b2) (Nat.le_refl _) _⟩

end Go.Proofs.YtcohonpbifdnjaaDoor
