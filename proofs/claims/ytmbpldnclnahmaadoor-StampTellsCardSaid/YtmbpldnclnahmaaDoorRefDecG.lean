/- The walk of the reference's Print. -/
import Derived.Test.YtmbpldnclnahmaaDoorRefDecF
import Derived.Laws.BytesArg
import Derived.Laws.Strings3
set_option linter.unusedVariables false
set_option linter.unusedSimpArgs false
namespace Go.Proofs.YtmbpldnclnahmaaDoor
open Go.RowKit Dc

theorem rstr_app (a b : List UInt8) : rstr a ++ rstr b = rstr (a ++ b) := ByteArray.ext (by apply Array.ext'; rw [ByteArray.data_append, Array.toList_append])
theorem radd_str (a b : List UInt8) (h : a.length + b.length ≤ 140737488351232) (W : World) : (Op.stringOp .add (rstr a) (rstr b)).run Tryd.prog W = .ok (.string (rstr (a ++ b))) W := by
  rw [run_string_add_sum W _ _ (by rw [rstr_size, rstr_size]; omega), rstr_app]
set_option maxHeartbeats 1000000 in
theorem rdigits0_calls (w : World) : Calls Tryd.prog 41 #[.int .u64 0] w fun e w' => e = .returned (.slice none 0 0) ∧ w = w' := by
  go_enter Tryd.func41, Tryd.ntmps41
  go_wp2
  go_loop [0, 3] (fun s0 s3 => s0 = .int .u64 0 ∧ s3 = .slice none 0 0) (fun s0 _ => (intOf s0).toNat)
  case atStart => exact ⟨rfl, rfl⟩
  case round =>
    obtain ⟨rfl, rfl⟩ := hrel
    go_wp2
    go_ret
    exact ⟨rfl, rfl⟩
theorem ramount0_calls (w : World) : Calls Tryd.prog 37 #[.int .i64 0] w fun e w' => e = .returned (.slice none 0 0) ∧ w = w' := by
  go_enter Tryd.func37, Tryd.ntmps37
  go_wp2_with fail
  refine (rdigits0_calls _).mono ?_; rintro e w1 ⟨rfl, rfl⟩
  go_wp2
  go_ret
  exact ⟨rfl, rfl⟩
/-- a slice of bytes, nil if it holds none -/
def DRx (w : World) (v : Value) (l : List Nat) : Prop := (l = [] ∧ v = .slice none 0 0) ∨ (0 < l.length ∧ DR w v l)
theorem ramountx_calls (m : Int) (w : World) (h1 : -9223372036854775808 ≤ m) (h2 : m ≤ 9223372036854775807) :
    Calls Tryd.prog 37 #[.int .i64 m] w fun e w' => ∃ v, e = .returned v ∧ DRx w' v (digs m.natAbs) ∧ Below w.heap.size w w' := by
  by_cases h0 : m = 0
  · subst h0
    refine (ramount0_calls w).mono ?_
    rintro e w' ⟨rfl, rfl⟩
    exact ⟨_, rfl, Or.inl ⟨by rw [show (0 : Int).natAbs = 0 from rfl, digs_zero], rfl⟩, Below.refl _ _⟩
  · refine (ramount_calls m w h1 h2).mono ?_
    rintro e w' ⟨v, rfl, hd, hb⟩
    refine ⟨v, rfl, Or.inr ⟨?_, hd⟩, hb⟩
    have := digs_ne (n := m.natAbs) (by omega)
    cases hdg : digs m.natAbs with
    | nil => exact absurd hdg this
    | cons a b => simp

theorem conv_one (W : World) (d : Nat) (c : UInt8) (hc : c = UInt8.ofNat (48 + d)) : (convert 45 9 (.slice (some ⟨W.heap.size, 0, none⟩) 1 1)).run Tryd.prog (W.alloc (.cells #[.int .u8 (48 + (d : Int))] 5)) = .ok (.string (rstr [c])) (W.alloc (.cells #[.int .u8 (48 + (d : Int))] 5)) := by
  have h : ∀ q, q < 1 → (W.alloc (.cells #[.int .u8 (48 + (d : Int))] 5)).cell? ⟨W.heap.size, 0 + q, none⟩ = some (.int .u8 ([48 + (d : Int)].getD q 0)) := fun q hq => by
    obtain rfl : q = 0 := by omega
    simp [go_sem]
  rw [run_convert_bytes_arg _ 45 5 Tryd.underlying45 Tryd.underlying5 W.heap.size 0 1 1 [48 + (d : Int)] rfl h 9 Tryd.underlying9, hc]
  unfold strOfNums
  rw [List.map_singleton, show (48 + (d : Int)).toNat = 48 + d by omega]

set_option maxRecDepth 100000 in
set_option maxHeartbeats 4000000 in
theorem rprint_calls (m s : Int) (w : World) (hm1 : -9223372036854775808 ≤ m) (hm2 : m ≤ 9223372036854775807) :
    Calls Tryd.prog 22 #[.agg #[.int .i64 m, .int .i64 s]] w fun e w' => e = .returned (.string (rstr (printL m s))) ∧ Below w.heap.size w w' := by
  obtain ⟨i0, hi, hz0, hz1, hz2⟩ := info_parts (P := Tryd.prog) (t := 5) (z := .int .u8 0) (n := 1) (m := 1) (by kernel_rfl)
  have Hi := Lib.hid hi
  have Hz0 := Lib.hid hz0
  have Hz1 := Lib.hid hz1
  have Hz2 := Lib.hid hz2
  have b0 := (Below.refl w.heap.size w).alloc (Nat.le_refl _) (.cells #[.int .i64 m, .int .i64 s] 23)
  have B0 := Lib.hid b0
  clear hi hz0 hz1 hz2 b0
  go_enter Tryd.func22, Tryd.ntmps22
  go_wp2_with fail
  refine (rgood_calls _ _ _).mono ?_; rintro e w1 ⟨rfl, b1⟩
  have B1 := Lib.hid (trans9 B0.out b1)
  have c0 : w1.cell? ⟨w.heap.size, 0, none⟩ = some (.int .i64 m) := (b1.cell (p := ⟨w.heap.size, 0, none⟩) (by simp)).trans (by simp [go_sem])
  have c1 : w1.cell? ⟨w.heap.size, 1, none⟩ = some (.int .i64 s) := (b1.cell (p := ⟨w.heap.size, 1, none⟩) (by simp)).trans (by simp [go_sem])
  have hzw : w.heap.size < w1.heap.size := by have := b1.size; simp at this; omega
  clear b1 B0
  cases hg : goodD m s with
  | false =>
    have Hp : Hid (printL m s = []) := by show _ = _; unfold printL; rw [hg]; rfl
    go_wp2
    go_ret
    exact ⟨by rw [Hp.out]; rfl, B1.out⟩
  | true =>
    obtain ⟨g1, g2, g3, _⟩ := (goodD_iff m s).1 hg
    obtain ⟨S, rfl⟩ : ∃ S : Nat, s = S := ⟨s.toNat, by omega⟩
    have hN : m.natAbs ≤ big := by unfold big; omega
    have Hp : Hid (printL m S = sgn (decide (m < 0)) ++ bd m.natAbs S (max (digs m.natAbs).length (S + 1))) := by
      show _ = _; unfold printL; rw [if_pos hg, Int.toNat_natCast]
    have ha := Lib.hid (fun W => ramountx_calls m W hm1 hm2)
    have hlen := digs_small hN
    have hS18 : S ≤ 18 := by omega
    clear hg
    go_wp2_with fail
    refine (ha.out _).mono ?_; rintro e w2 ⟨v, rfl, d2, b2⟩
    have B2 := Lib.hid (B1.out.trans (b2.mono (Nat.le_of_lt hzw)))
    have e0 := (b2.cell (p := ⟨w.heap.size, 0, none⟩) hzw).trans c0
    have e1 := (b2.cell (p := ⟨w.heap.size, 1, none⟩) hzw).trans c1
    have hzw2 := Nat.lt_of_lt_of_le hzw b2.size
    have E := Lib.hid (⟨e0, e1⟩ : _ ∧ _)
    have D2 := Lib.hid d2
    clear b2 B1 ha c0 c1 hzw e0 e1 d2
    go_wp2_with fail
    go_loopw [3] (fun s3 wr => ∃ (j : Nat) (r : List Nat), r.length ≤ 20 ∧ Hid (r = List.replicate j 0 ++ digs m.natAbs ∧ r.length ≤ max (digs m.natAbs).length (S + 1) ∧ Below w.heap.size w wr ∧ wr.cell? ⟨w.heap.size, 0, none⟩ = some (.int .i64 m) ∧ wr.cell? ⟨w.heap.size, 1, none⟩ = some (.int .i64 (S : Nat)) ∧ w.heap.size < wr.heap.size) ∧ DRx wr s3 r) (fun s3 _ => S + 1 - (match s3 with | .slice _ n _ => n | _ => 0))
    case atStart => exact ⟨0, digs m.natAbs, by omega, ⟨by simp, by omega, B2.out, E.out.1, E.out.2, hzw2⟩, D2.out⟩
    case round =>
      clear B2 E D2 hzw2
      obtain ⟨j, r, hr20, H, hv⟩ := hrel
      obtain ⟨hr, hrK, hB, e0, e1, hzr⟩ := H.out
      have hbs := hB.size
      rcases hv with ⟨hre, rfl⟩ | ⟨hr0, hdr⟩
      · have Hr := Lib.hid hr
        have hre' := Lib.hid hre
        have HH := Lib.hid (⟨hB, e0, hzr⟩ : _ ∧ _ ∧ _)
        have hrl0 : r.length = 0 := by rw [hre]; rfl
        have E1 := Lib.hid e1
        have e1' := ((Below.refl wr.heap.size wr).alloc (Nat.le_refl _) (.cells #[.int .u8 0] 5)).cell (p := ⟨w.heap.size, 1, none⟩) hzr
        clear hr hre hB e0 e1' H
        go_wp2_with (at_builtin; refine wpList_append_own_none rfl _ _ _ (by rfl) wr.heap.size 5 i0 1 Tryd.underlying45 Hi.out _ 1 (ints [0]) (by rfl) (own_one' _ _ 0 0 rfl (Nat.le_refl _)) (by rfl) ?_)
        go_roundw
        case rel =>
          have b3 := (Below.refl wr.heap.size wr).alloc (Nat.le_refl _) (.cells #[.int .u8 0] 5)
          refine ⟨j + 1, [0], by simp, ⟨?_, by simp; omega, kb_alloc HH.out.1 (Nat.le_refl _) _, (b3.cell (p := ⟨w.heap.size, 0, none⟩) HH.out.2.2).trans HH.out.2.1, (b3.cell (p := ⟨w.heap.size, 1, none⟩) HH.out.2.2).trans E1.out, Nat.lt_of_lt_of_le HH.out.2.2 b3.size⟩, Or.inr ⟨by simp, DR.own (own_one' _ wr.heap.size 0 0 rfl (Nat.le_refl _))⟩⟩
          have h := Hr.out
          rw [hre'.out] at h
          rw [List.replicate_succ, List.cons_append, ← h]
        case measure => simp
      · obtain ⟨A, cap, rfl, h1, h2, h3⟩ := hdr
        obtain ⟨b, off, rfl, hbl, hcs⟩ := h3 hr0
        have Hcap := Lib.hid h2
        unfold maxLen at h2
        have Hr := Lib.hid hr
        have Hcs := Lib.hid hcs
        by_cases hgo : r.length ≤ S
        · have HH := Lib.hid (⟨hB, e0, e1, hzr⟩ : _ ∧ _ ∧ _ ∧ _)
          have b3 := (Below.refl wr.heap.size wr).alloc (Nat.le_refl _) (.cells #[.int .u8 0] 5)
          have hnews : ∀ j u, (ints r)[j]? = some u → (wr.alloc (.cells #[.int .u8 0] 5)).cell? ((⟨b, off, none⟩ : Addr).add j) = some u :=
            DR.news (fun j d hj => (b3.cell (p := ⟨b, off + j, none⟩) hbl).trans (Hcs.out j d hj))
          have Hnews := Lib.hid hnews
          have B3 := Lib.hid b3
          clear hr hcs hnews b3 hB e0 H h3
          go_wp2_with (at_builtin; refine wpList_append_lies _ rfl _ _ _ (by rfl) wr.heap.size 5 i0 _ 1 1 Tryd.underlying45 Hi.out Hz0.out Hz1.out Hz2.out rfl (by omega) _ 1 (ints [0]) (by rfl) (own_one' _ _ 0 0 rfl (Nat.le_refl _)) ⟨b, off, none⟩ r.length cap (ints r) (by rfl) (by rw [ints_len]; omega) Hnews.out (ints_one r) hr0 (by unfold maxLen; omega) (by omega) (by simp) _ rfl ?_)
          intro g2 cap2 w3 hown3 hgrow hat hlt
          have Hown3 := Lib.hid hown3
          have b4 := Lib.hid (B3.out.grown hgrow (by simp) (fun k hk => by cases hk; exact Nat.le_refl _))
          clear hown3 hgrow hat hlt Hnews
          go_wp2_with fail
          go_roundw
          case rel =>
            obtain ⟨q1, q2, q3, q4⟩ := HH.out
            refine ⟨j + 1, 0 :: r, by simp; omega, ⟨by rw [Hr.out, List.replicate_succ, List.cons_append], by simp; omega, q1.trans (b4.out.mono q1.size), (b4.out.cell (p := ⟨w.heap.size, 0, none⟩) q4).trans q2, (b4.out.cell (p := ⟨w.heap.size, 1, none⟩) q4).trans q3, Nat.lt_of_lt_of_le q4 b4.out.size⟩, Or.inr ⟨by simp, ?_⟩⟩
            have h := Hown3.out
            rw [← ints_app] at h
            exact DR.own h
          case measure => simp; omega
        · have hrl : r.length = max (digs m.natAbs).length (S + 1) := by
            have : (digs m.natAbs).length ≤ r.length := by rw [hr, List.length_append]; omega
            omega
          have hdr : DR wr (.slice (some ⟨b, off, none⟩) r.length cap) r := ⟨_, cap, rfl, h1, Hcap.out, fun _ => ⟨b, off, rfl, hbl, hcs⟩⟩
          have hval : Hid (∀ i d, r[i]? = some d → d = dgt m.natAbs (r.length - 1 - i)) := fun i d hd => by
            have h := val_at r (by rw [hr]; exact pad_le j _) i d hd
            rw [h]
            congr 1
            rw [hr, pad_val]
          have hSK : S < r.length := by omega
          have hex : Hid (∀ i, i < r.length → ∃ d, r[i]? = some d) := fun i h => ⟨_, List.getElem?_eq_getElem h⟩
          have HW := Lib.hid (⟨hB, e1, hzr, hdr⟩ : _ ∧ _ ∧ _ ∧ _)
          have hp1 := Hp.out
          rw [← hrl] at hp1
          have Hp1 := Lib.hid hp1
          have htot : (sgn (decide (m < 0)) ++ bd m.natAbs S r.length).length ≤ 40 := by
            have h1 := bd_len m.natAbs S r.length
            have h2 : (sgn (decide (m < 0))).length ≤ 1 := by unfold sgn; split <;> simp
            rw [List.length_append]; omega
          have Htot := Lib.hid htot
          clear hr hcs hB H h3 hrl hdr hp1 Hp Hr htot hrK
          generalize r.length = K at *
          go_upto_if 22 with (fail)
          clear e0 e1
          go_cut [4] (fun s4 wx => s4 = .string (rstr (sgn (decide (m < 0)))) ∧ wx = wr)
          case first =>
            by_cases hn : m < 0
            · have hd : Hid (sgn (decide (m < 0)) = [45]) := by show _ = _; rw [decide_eq_true hn]; rfl
              go_wp2_with fail
              go_meet
              exact ⟨by rw [hd.out], rfl⟩
            · have hd : Hid (sgn (decide (m < 0)) = []) := by show _ = _; rw [decide_eq_false hn]; rfl
              go_wp2_with fail
              go_meet
              exact ⟨by rw [hd.out], rfl⟩
          case rest =>
            obtain ⟨rfl, rfl⟩ := hcut
            go_wp2_with fail
            generalize m.natAbs = N at *
            generalize sgn (decide (m < 0)) = sg0 at *
            go_loopw [4, 5] (fun s4 s5 wq => ∃ (i : Nat) (c : List UInt8), i ≤ K ∧ s5 = .int .i64 (i : Nat) ∧ s4 = .string (rstr c) ∧ Hid (c ++ bdr N S (K - i) = sg0 ++ bd N S K ∧ Below wc.heap.size wc wq)) (fun _ s5 _ => K - (intOf s5).toNat)
            case atStart => exact ⟨0, sg0, by omega, rfl, rfl, by rw [Nat.sub_zero, bdr_top N S K hSK], Below.refl _ _⟩
            case round =>
              obtain ⟨i, c, hi, rfl, rfl, H⟩ := hrel
              by_cases hiK : i < K
              · obtain ⟨hc, hB⟩ := H.out
                have hlc : c.length ≤ 40 := by
                  have h1 := congrArg List.length hc
                  have := Htot.out
                  rw [List.length_append] at h1; omega
                obtain ⟨d, hd⟩ := hex.out i hiK
                have ei := (hB.cell (p := ⟨b, off + i, none⟩) hbl).trans (Hcs.out i d hd)
                have eS := (hB.cell (p := ⟨w.heap.size, 1, none⟩) hzr).trans HW.out.2.1
                have hdv := hval.out i d hd
                obtain ⟨k, hk⟩ : ∃ k, K - i = k + 1 := ⟨K - i - 1, by omega⟩
                have hd9 : d ≤ 9 := by rw [hdv]; exact dgt_le _ _
                have hch : Hid (ch N k = UInt8.ofNat (48 + d)) := by
                  show _ = _
                  unfold ch
                  rw [hdv, show K - 1 - i = k by omega]
                have hc2 : Hid (c ++ (if k + 1 = S then [46] else []) ++ [ch N k] ++ bdr N S k = sg0 ++ bd N S K) := by
                  show _ = _
                  rw [← hc, hk]
                  unfold bdr
                  by_cases h : k + 1 = S
                  · rw [if_pos h, if_pos (show 0 < k + 1 ∧ k + 1 = S from ⟨by omega, h⟩), bd]; simp
                  · rw [if_neg h, if_neg (show ¬ (0 < k + 1 ∧ k + 1 = S) from fun e => h e.2), bd]; simp
                have HB := Lib.hid hB
                have hKS : (K : Int) - (S : Int) = ((K - S : Nat) : Int) := by omega
                clear hc hB H hd hdv
                by_cases hdot : k + 1 = S
                · have hbt : ((i : Int) == (K : Int) - (S : Int)) = true := by
                    rw [show (i : Int) = (K : Int) - (S : Int) by omega]; simp
                  have Hdot := Lib.hid hdot
                  have ha := fun W => radd_str c [46] (by rw [List.length_singleton]; omega) W
                  have Ha : ∀ W : World, (Op.stringOp .add (rstr c) ⟨#[46]⟩).run Tryd.prog W = .ok (.string (rstr (c ++ [46]))) W := ha
                  have hcv := fun W => conv_one W d (ch N k) hch.out
                  have hadd := fun W => radd_str (c ++ [46]) [ch N k] (by rw [List.length_append, List.length_singleton, List.length_singleton]; omega) W
                  clear hKS ha hdot
                  generalize hC2 : c ++ [46] ++ [ch N k] = C2 at *
                  have HC2 := Lib.hid hC2
                  clear hC2
                  go_wp2_with fail
                  go_roundw
                  case rel =>
                    refine ⟨i + 1, _, hiK, by go_num, rfl, ?_, kb_alloc HB.out (Nat.le_refl _) _⟩
                    rw [show K - (i + 1) = k by omega, ← HC2.out, ← hc2.out]
                    rw [if_pos Hdot.out]
                  case measure => simp [intOf]; omega
                · have hbt : ((i : Int) == (K : Int) - (S : Int)) = false := by
                    simpa using (by omega : ¬ (i : Int) = (K : Int) - (S : Int))
                  have Hdot := Lib.hid hdot
                  have hcv := fun W => conv_one W d (ch N k) hch.out
                  have hadd := fun W => radd_str c [ch N k] (by rw [List.length_singleton]; omega) W
                  clear hKS hdot
                  generalize hC2 : c ++ [ch N k] = C2 at *
                  have HC2 := Lib.hid hC2
                  clear hC2
                  go_wp2_with fail
                  go_roundw
                  case rel =>
                    refine ⟨i + 1, _, hiK, by go_num, rfl, ?_, kb_alloc HB.out (Nat.le_refl _) _⟩
                    rw [show K - (i + 1) = k by omega, ← HC2.out, ← hc2.out]
                    rw [if_neg Hdot.out, List.append_nil]
                  case measure => simp [intOf]; omega
              · obtain rfl : i = K := by omega
                have hc := H.out.1
                rw [Nat.sub_self, bdr_zero, List.append_nil] at hc
                have Hc := Lib.hid hc
                have HB := Lib.hid (HW.out.1.trans (H.out.2.mono HW.out.1.size))
                clear hc H
                go_wp2_with fail
                go_ret
                exact ⟨by rw [Hp1.out, ← Hc.out]; rfl, HB.out⟩

end Go.Proofs.YtmbpldnclnahmaaDoor
