/- The walk of package dec's Print. -/
import Derived.Test.YtmbpldnclnahmaaDoorDecC
import Derived.Test.YtmbpldnclnahmaaDoorBuild
import Derived.Deep.DeepCutAuto
set_option linter.unusedVariables false
set_option linter.unusedSimpArgs false
namespace Go.Proofs.YtmbpldnclnahmaaDoor
open Go.RowKit Dc

theorem isb_below {T e B b : Nat} {bs : List Value} {w w' : World} (h : Lib.IsBuilder T e B b bs w) (hb : Below w.heap.size w w') : Lib.IsBuilder T e B b bs w' := by
  have key : ∀ p, Lib.BuilderAt T e B b p bs w → Lib.BuilderAt T e B b p bs w' := fun p k => by
    obtain ⟨hB, v, h1, h2, h3⟩ := k
    exact ⟨hB, v, by rw [hb.block b (Array.getElem?_eq_some_iff.1 h1).1]; exact h1, own_below h2 hb, h3⟩
  rcases h with h | h
  · exact Or.inl (key _ h)
  · exact Or.inr (key _ h)
theorem DigAt.kept {w w' : World} {l b : Nat} {z : Nat → Nat} (h : DigAt w l z) (hk : Lib.OthersKept 5 (some b) w w') (hne : l ≠ b) : DigAt w' l z :=
  ⟨hk _ _ h.heap (by simpa using hne) (fun c fz e => by injection e with _ h2 _; exact absurd h2 (by decide))⟩
theorem byteCells_snoc (l : List UInt8) (c : UInt8) (v : Int) (h : v = c.toNat) : Lib.byteCells l ++ [.int .u8 v] = Lib.byteCells (l ++ [c]) := by
  subst h; simp [Lib.byteCells]

set_option maxRecDepth 100000 in
set_option maxHeartbeats 4000000 in
theorem print_calls (m s : Int) (w : World) (hm1 : -9223372036854775808 ≤ m) (hm2 : m ≤ 9223372036854775807) :
    Calls Tryd.prog 32 #[dv2 m s] w fun e w' => e = .returned (.string (str (printL m s))) ∧ Below w.heap.size w w' := by
  have b0 := (Below.refl w.heap.size w).alloc (Nat.le_refl _) (.cells #[.int .i64 m, .int .i64 s] 23)
  have B0 := Lib.hid b0
  clear b0
  go_enter Tryd.func32, Tryd.ntmps32
  go_wp2_with fail
  refine (good_calls _ _ _).mono ?_; rintro e w1 ⟨rfl, b1⟩
  have B1 := Lib.hid (trans9 B0.out b1)
  obtain ⟨hcell, _⟩ := bcell b1
  have c0 : w1.cell? ⟨w.heap.size, 0, none⟩ = some (.int .i64 m) := (hcell w.heap.size 0 (by simp)).trans (by simp [go_sem])
  have c1 : w1.cell? ⟨w.heap.size, 1, none⟩ = some (.int .i64 s) := (hcell w.heap.size 1 (by simp)).trans (by simp [go_sem])
  have hz1 : w.heap.size < w1.heap.size := by have := b1.size; simp at this; omega
  clear b1 hcell B0
  cases hg : goodD m s with
  | false =>
    have Hp : Hid (printL m s = []) := by show _ = _; unfold printL; rw [hg]; rfl
    go_wp2
    go_ret
    exact ⟨by rw [Hp.out]; rfl, B1.out⟩
  | true =>
    obtain ⟨g1, g2, g3, _⟩ := (goodD_iff m s).1 hg
    obtain ⟨S, rfl⟩ : ∃ S : Nat, s = S := ⟨s.toNat, by omega⟩
    have hN : m.natAbs ≤ big := by unfold big; omega
    have Hp : Hid (printL m S = sgn (decide (m < 0)) ++ bd m.natAbs S (max (digs m.natAbs).length (S + 1))) := by
      show _ = _; unfold printL; rw [if_pos hg, Int.toNat_natCast]
    have h0 := Lib.hid (Lib.fresh_isBuilder 70 5 w1)
    have b2 := (Below.refl w1.heap.size w1).alloc (Nat.le_refl _) (.cells #[.pointer none, .slice none 0 0] 70)
    have d0 := (b2.cell (p := ⟨w.heap.size, 0, none⟩) hz1).trans c0
    have d1 := (b2.cell (p := ⟨w.heap.size, 1, none⟩) hz1).trans c1
    have B2 := Lib.hid (B1.out.trans (b2.mono (Nat.le_of_lt hz1)))
    have hbs : w1.heap.size < (w1.alloc (.cells #[.pointer none, .slice none 0 0] 70)).heap.size := by simp
    clear b2 B1 c0 c1 hg
    go_upto_if 14 with (fail)
    generalize w1.alloc (.cells #[.pointer none, .slice none 0 0] 70) = W2 at *
    generalize hb : w1.heap.size = b at *
    clear hb
    have D0 := Lib.hid d0
    have D1 := Lib.hid d1
    clear d0 d1
    go_cut [4] (fun s4 wx => s4 = .int .i64 (m.natAbs : Nat) ∧ Hid (Below w.heap.size w wx ∧ Lib.IsBuilder 70 5 b b (Lib.byteCells (sgn (decide (m < 0)))) wx ∧ wx.cell? ⟨w.heap.size, 0, none⟩ = some (.int .i64 m) ∧ wx.cell? ⟨w.heap.size, 1, none⟩ = some (.int .i64 (S : Nat)) ∧ b < wx.heap.size))
    case first =>
      by_cases hn : m < 0
      · have hw := Lib.hid (bbyte_calls b b [] 45 W2 h0.out (by simp) (Nat.le_of_lt hbs))
        have e : -m = (m.natAbs : Int) := by omega
        have E := Lib.hid e
        clear e
        go_wp2_with fail
        refine hw.out.mono ?_; rintro e w3 ⟨rfl, h3, b3, _⟩
        have H3 := Lib.hid h3
        have B3 := Lib.hid b3
        clear h3 b3
        go_wp2_with fail
        go_meet
        refine ⟨by rw [E.out], B2.out.trans (B3.out.mono (Nat.le_of_lt hz1)), Or.inr (by rw [decide_eq_true hn]; exact H3.out), (B3.out.cell (p := ⟨w.heap.size, 0, none⟩) hz1).trans D0.out, (B3.out.cell (p := ⟨w.heap.size, 1, none⟩) hz1).trans D1.out, Nat.lt_of_lt_of_le hbs B3.out.size⟩
      · have e : m = (m.natAbs : Int) := by omega
        have E := Lib.hid e
        clear e
        go_wp2_with fail
        go_meet
        exact ⟨by rw [← E.out], B2.out, by rw [decide_eq_false (show ¬ m < 0 by omega)]; exact h0.out, D0.out, D1.out, hbs⟩
    case rest =>
      obtain ⟨rfl, H⟩ := hcut
      clear h0 B2 D0 D1
      obtain ⟨hB, hI, d0, d1, hbw⟩ := H.out
      have hS := Lib.hid (spread_calls m.natAbs wc hN)
      have HB := Lib.hid hB
      have HI := Lib.hid hI
      have D1 := Lib.hid d1
      clear H hB hI d0 d1
      go_wp2_with fail
      refine hS.out.mono ?_; rintro e w4 ⟨rfl, b4⟩
      have HB4 := Lib.hid (HB.out.trans (b4.mono HB.out.size))
      have HI4 := Lib.hid (isb_below HI.out b4)
      have D14 := Lib.hid ((b4.cell (p := ⟨w.heap.size, 1, none⟩) (Nat.lt_trans hz1 hbw)).trans D1.out)
      have hbw4 := Nat.lt_of_lt_of_le hbw b4.size
      clear hS HB HI D1 b4 hbw
      go_upto_region 9 with (refine wpList_store_row rfl 75 _ _ rfl w4.heap.size _ rfl rfl 75 _ (heap_alloc_new w4 _) (by rw [dA_size]; exact dig_info) (by rw [dA_size]; rfl) (dA_one _) ?_)
      rw [zeros_dA]
      have l6 : DigAt ((w4.alloc (.cells (dA (fun _ => 0)) 75)).setRow w4.heap.size (dA (dgt m.natAbs))) w4.heap.size (dgt m.natAbs) := (DigAt.new w4 _).row _
      have b6 : Below w4.heap.size w4 ((w4.alloc (.cells (dA (fun _ => 0)) 75)).setRow w4.heap.size (dA (dgt m.natAbs))) := below_setRow ((Below.refl _ _).alloc (Nat.le_refl _) _) (Nat.le_refl _) _
      generalize (w4.alloc (.cells (dA (fun _ => 0)) 75)).setRow w4.heap.size (dA (dgt m.natAbs)) = W6 at *
      have HB6 := Lib.hid (HB4.out.trans (b6.mono HB4.out.size))
      have HI6 := Lib.hid (isb_below HI4.out b6)
      have d16 := (b6.cell (p := ⟨w.heap.size, 1, none⟩) (Nat.lt_trans hz1 hbw4)).trans D14.out
      have L6 := Lib.hid l6
      have Hb6 := Lib.hid (Nat.lt_of_lt_of_le hbw4 b6.size)
      clear HB4 HI4 D14 l6 b6
      have hlb : w4.heap.size ≠ b := by omega
      generalize w4.heap.size = l at *
      have hlen := digs_small hN
      generalize hn : (digs m.natAbs).length = n at *
      have Hn := Lib.hid hn
      clear hn
      go_cut [7] (fun s7 wx => s7 = .int .i64 (((max n (S + 1) : Nat) : Int) - 1) ∧ wx = W6)
      case first =>
        go_wp2_with fail
        all_goals go_meet
        all_goals exact ⟨by congr 1; omega, rfl⟩
      case rest =>
        obtain ⟨rfl, rfl⟩ := hcut
        have hK : max n (S + 1) ≤ 19 := by omega
        have hSK : S < max n (S + 1) := by omega
        have hp := Hp.out
        have Hp := Lib.hid hp
        have HW := Lib.hid (⟨HB6.out, HI6.out, d16, L6.out, Hb6.out⟩ : _ ∧ _ ∧ _ ∧ _ ∧ _)
        clear hp d16 HB6 HI6 L6 Hb6
        generalize max n (S + 1) = K at *
        have htot : (sgn (decide (m < 0)) ++ bd m.natAbs S K).length ≤ 30 := by
          have h1 := bd_len m.natAbs S K
          have h2 : (sgn (decide (m < 0))).length ≤ 1 := by unfold sgn; split <;> simp
          rw [List.length_append]; omega
        have Htot := Lib.hid htot
        clear htot hlen Hn
        generalize m.natAbs = N at *
        generalize sgn (decide (m < 0)) = sg0 at *
        go_wp2_with fail
        go_loopw [7] (fun s7 wr => ∃ k : Nat, k ≤ K ∧ s7 = .int .i64 ((k : Int) - 1) ∧ Hid (∃ c : List UInt8, c ++ bd N S k = sg0 ++ bd N S K ∧ Below w.heap.size w wr ∧ Lib.IsBuilder 70 5 b b (Lib.byteCells c) wr ∧ wr.cell? ⟨w.heap.size, 1, none⟩ = some (.int .i64 (S : Nat)) ∧ DigAt wr l (dgt N) ∧ b < wr.heap.size)) (fun s7 _ => (intOf s7 + 1).toNat)
        case atStart => exact ⟨K, Nat.le_refl _, rfl, _, rfl, HW.out⟩
        case round =>
          obtain ⟨k, hk, rfl, H⟩ := hrel
          clear HW
          obtain ⟨c, hc, hB, hI, hs, hL, hbw⟩ := H.out
          rcases k with _ | k
          · have hS := Lib.hid (bstring_calls b b c _ hI (Nat.le_of_lt hbw))
            have HB := Lib.hid hB
            have Hc := Lib.hid hc
            clear hc hB hI hs hL H
            go_wp2_with fail
            refine hS.out.mono ?_; rintro e w8 ⟨rfl, b8⟩
            go_wp2
            go_ret
            have h1 := Hc.out
            rw [bd, List.append_nil] at h1
            exact ⟨by rw [Hp.out, ← h1]; rfl, HB.out.trans (b8.mono (Nat.le_of_lt hz1))⟩
          · have e : ((k + 1 : Nat) : Int) - 1 = (k : Int) := by omega
            rw [e]
            have hk19 : k < 19 := by omega
            have hcell := hL.cell k hk19
            have hd9 := dgt_le N k
            have hch := ch_nat N k
            have hlen : c.length ≤ 30 := by
              have h1 := congrArg List.length hc
              have h2 := Htot.out
              rw [← h1, List.length_append] at h2
              omega
            have hv : (48 + (dgt N k : Nat) : Int) = (ch N k).toNat := by rw [hch]; omega
            have hw1 := bbyte_calls b b (Lib.byteCells c) (48 + (dgt N k : Nat)) _ hI (by rw [Lib.byteCells_length]; omega) (Nat.le_of_lt hbw)
            rw [byteCells_snoc c (ch N k) _ hv] at hw1
            have Hw1 := Lib.hid hw1
            have HB := Lib.hid hB
            have Hs := Lib.hid hs
            have HL := Lib.hid hL
            have Hc := Lib.hid hc
            have Hd := Lib.hid hlen
            clear e hch hlen hv hw1 hB hI hs hL hc H
            generalize hdg : dgt N k = d at *
            clear hdg
            go_wp2_with fail
            refine Hw1.out.mono ?_; rintro e w8 ⟨rfl, h8, b8, k8⟩
            have HB8 := Lib.hid (HB.out.trans (b8.mono (Nat.le_of_lt hz1)))
            have HI8 : Hid (Lib.IsBuilder 70 5 b b (Lib.byteCells (c ++ [ch N k])) w8) := Or.inr h8
            have hs8 := (b8.cell (p := ⟨w.heap.size, 1, none⟩) hz1).trans Hs.out
            have HL8 := Lib.hid (HL.out.kept k8 hlb)
            have Hb8 := Lib.hid (Nat.lt_of_lt_of_le hbw b8.size)
            clear Hw1 HB Hs HL h8 b8 k8 hcell
            by_cases h1 : 0 < k
            · by_cases h2 : k = S
              · have h2b : ((k : Int) == (S : Int)) = true := by rw [h2]; simp
                have hw2 := bbyte_calls b b (Lib.byteCells (c ++ [ch N k])) 46 _ HI8.out (by rw [Lib.byteCells_length, List.length_append]; have := Hd.out; simp; omega) (Nat.le_of_lt Hb8.out)
                rw [byteCells_snoc (c ++ [ch N k]) 46 46 rfl] at hw2
                have Hw2 := Lib.hid hw2
                have Hs8 := Lib.hid hs8
                have H2 := Lib.hid h2
                clear hw2 h2
                go_wp2_with fail
                refine Hw2.out.mono ?_; rintro e w9 ⟨rfl, h9, b9, k9⟩
                have HB9 := Lib.hid (HB8.out.trans (b9.mono (Nat.le_of_lt hz1)))
                have HI9 : Hid (Lib.IsBuilder 70 5 b b (Lib.byteCells (c ++ [ch N k] ++ [46])) w9) := Or.inr h9
                have hs9 := Lib.hid ((b9.cell (p := ⟨w.heap.size, 1, none⟩) hz1).trans Hs8.out)
                have HL9 := Lib.hid (HL8.out.kept k9 hlb)
                have Hb9 := Lib.hid (Nat.lt_of_lt_of_le Hb8.out b9.size)
                clear Hw2 HB8 HI8 Hs8 hs8 HL8 Hb8 h9 b9 k9
                go_wp2_with fail
                go_roundw
                case rel =>
                  refine ⟨k, by omega, rfl, _, ?_, HB9.out, HI9.out, hs9.out, HL9.out, Hb9.out⟩
                  have h := Hc.out
                  rw [bd, if_pos ⟨h1, H2.out⟩] at h
                  rw [← h]; simp
                case measure => simp [intOf]
              · have h2b : ((k : Int) == (S : Int)) = false := by simpa using (by omega : ¬ (k : Int) = (S : Int))
                go_wp2_with fail
                go_roundw
                case rel =>
                  refine ⟨k, by omega, rfl, _, ?_, HB8.out, HI8.out, hs8, HL8.out, Hb8.out⟩
                  have h := Hc.out
                  rw [bd, if_neg (fun e => h2 e.2)] at h
                  rw [← h]; simp
                case measure => simp [intOf]
            · have h1b : ¬ (0 : Int) < (k : Int) := by omega
              go_wp2_with fail
              go_roundw
              case rel =>
                refine ⟨k, by omega, rfl, _, ?_, HB8.out, HI8.out, hs8, HL8.out, Hb8.out⟩
                have h := Hc.out
                rw [bd, if_neg (fun e => h1 e.1)] at h
                rw [← h]; simp
              case measure => simp [intOf]

end Go.Proofs.YtmbpldnclnahmaaDoor
