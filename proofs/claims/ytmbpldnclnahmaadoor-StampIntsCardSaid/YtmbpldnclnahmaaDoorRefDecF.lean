/- The walk of the reference's Parse. -/
import Derived.Test.YtmbpldnclnahmaaDoorRefDecE
import Derived.Deep.DeepCutAuto
set_option linter.unusedVariables false
set_option linter.unusedSimpArgs false
namespace Go.Proofs.YtmbpldnclnahmaaDoor
open Go.RowKit Dc

def rparseV (r : (Int × Int) × Int × Int) : Value := .tuple #[.agg #[.int .i64 r.1.1, .int .i64 r.1.2], .int .i64 r.2.1, .int .i64 r.2.2]
abbrev rstr (l : List UInt8) : ByteArray := ⟨l.toArray⟩
theorem rstr_size (l : List UInt8) : (rstr l).size = l.length := by rw [Lib.size_eq]
theorem rstr_at (l : List UInt8) (i : Nat) (h : i < (rstr l).size) : (rstr l)[i] = l[i]'(by rw [rstr_size] at h; exact h) := rfl
theorem cut_bad_ways {l : List UInt8} {n : Nat} (h : cut l = .bad n) : (pt l = sg l ∧ n = sg l) ∨ (pt l ≠ sg l ∧ pt l < l.length ∧ l[pt l]? ≠ some 46 ∧ n = pt l) ∨
    (pt l ≠ sg l ∧ pt l < l.length ∧ l[pt l]? = some 46 ∧ n = en l ∧ (en l = pt l + 1 ∨ (en l ≠ pt l + 1 ∧ en l < l.length))) := by
  have hp := pt_le l
  unfold cut at h
  split at h
  · rename_i h0; cases h; exact Or.inl ⟨h0, h0⟩
  rename_i h0
  split at h
  · cases h
  rename_i h1
  split at h
  · rename_i h2; cases h; exact Or.inr (Or.inl ⟨h0, by omega, h2, rfl⟩)
  rename_i h2
  split at h
  · rename_i h3
    cases h
    refine Or.inr (Or.inr ⟨h0, by omega, by simpa using h2, rfl, ?_⟩)
    by_cases h4 : en l = pt l + 1
    · exact Or.inl h4
    · exact Or.inr ⟨h4, h3.resolve_left h4⟩
  · cases h
/-- the digits up to i -/
def acc (l : List UInt8) (i : Nat) : List Nat := vals (((l.take i).drop (sg l)).filter dg)
theorem acc_start (l : List UInt8) : acc l (sg l) = [] := by
  unfold acc
  rw [List.drop_eq_nil_of_le (by rw [List.length_take]; omega)]; rfl
theorem acc_step (l : List UInt8) (i : Nat) (hi : sg l ≤ i) (h : i < l.length) : acc l (i + 1) = acc l i ++ (if dg l[i] = true then [dv l[i]] else []) := by
  unfold acc
  rw [List.take_succ_eq_append_getElem h, List.drop_append_of_le_length (by rw [List.length_take]; omega), List.filter_append, vals_app]
  congr 1
  by_cases hg : dg l[i] = true
  · rw [if_pos hg, List.filter_cons, if_pos hg]; rfl
  · rw [if_neg hg, List.filter_cons, if_neg hg]; rfl
theorem acc_end (l : List UInt8) : acc l l.length = vals ((l.drop (sg l)).filter dg) := by
  unfold acc; rw [List.take_of_length_le (Nat.le_refl _)]
theorem acc_len (l : List UInt8) (i : Nat) : (acc l i).length ≤ l.length := by
  unfold acc
  rw [vals_len]
  have h1 := List.length_filter_le dg ((l.take i).drop (sg l))
  rw [List.length_drop, List.length_take] at h1
  omega

set_option maxRecDepth 100000 in
set_option maxHeartbeats 8000000 in
theorem rparse_calls (l : List UInt8) (w : World) (hl : l.length ≤ 1000000) :
    Calls Tryd.prog 20 #[.string (rstr l)] w fun e w' => e = .returned (rparseV (parse l)) ∧ Below w.heap.size w w' := by
  obtain ⟨i0, hi, hz0, hz1, hz2⟩ := info_parts (P := Tryd.prog) (t := 5) (z := .int .u8 0) (n := 1) (m := 1) (by kernel_rfl)
  have Hi := Lib.hid hi
  have Hz0 := Lib.hid hz0
  have Hz1 := Lib.hid hz1
  have Hz2 := Lib.hid hz2
  have b0 := (Below.refl w.heap.size w).alloc (Nat.le_refl _) (.cells #[.int .i64 0, .int .i64 0] 23)
  have B0 := Lib.hid b0
  clear hi hz0 hz1 hz2 b0
  have hsz := rstr_size l
  have hmax : (rstr l).size ≤ maxLen := by rw [hsz]; unfold maxLen; omega
  have hg := sg_le l
  have hp := pt_le l
  have hgp : sg l ≤ pt l := by unfold pt; omega
  have hr1 : Hid (∀ W, Calls Tryd.prog 24 #[.string (rstr l), .int .i64 ((sg l : Nat) : Int)] W fun e w' => e = .returned (.int .i64 ((pt l : Nat) : Int)) ∧ W = w') := fun W => rrun_calls (rstr l) (sg l) W (by rw [hsz]; exact hg) hmax
  have hr2 : Hid (pt l < l.length → ∀ W, Calls Tryd.prog 24 #[.string (rstr l), .int .i64 ((pt l + 1 : Nat) : Int)] W fun e w' => e = .returned (.int .i64 ((en l : Nat) : Int)) ∧ W = w') := fun h W => rrun_calls (rstr l) (pt l + 1) W (by rw [hsz]; exact h) hmax
  have ep : ((pt l + 1 : Nat) : Int) = (pt l : Int) + 1 := by omega
  rw [ep] at hr2
  clear ep
  go_enter Tryd.func20, Tryd.ntmps20
  go_upto_region 2 with (fail)
  go_cut [20] (fun s20 wx => s20 = .bool (decide (sg l = 1)) ∧ wx = w.alloc (.cells #[.int .i64 0, .int .i64 0] 23))
  case first =>
    clear hr1 hr2
    rcases sg_cases l with ⟨r, hlr, hs⟩ | ⟨hs, hno⟩
    · have hpos : 0 < l.length := by rw [hlr]; simp
      have hat := rstr_at l 0 (by omega)
      have hl0 : l[0] = 45 := by simp [hlr]
      rw [hl0] at hat
      have hd : Hid (decide (sg l = 1) = true) := decide_eq_true hs
      clear hs hlr hl0 hgp hp hg
      go_wp2_with fail
      go_meet
      exact ⟨by rw [hd.out], rfl⟩
    · have hd : Hid (decide (sg l = 1) = false) := by show _ = _; rw [hs]; rfl
      by_cases hpos : 0 < l.length
      · have hat := rstr_at l 0 (by omega)
        have hne : l[0] ≠ 45 := by
          cases l with
          | nil => simp at hpos
          | cons c r => exact fun e => hno r (by rw [← e]; rfl)
        have hb : ((l[0].toNat : Int) == 45) = false := by
          have : ¬ (l[0].toNat : Int) = 45 := fun e => hne (UInt8.toNat_inj.1 (by show l[0].toNat = 45; omega))
          simpa using this
        clear hs hno hne hgp hp hg
        go_wp2_with fail
        go_meet
        exact ⟨by rw [hd.out], rfl⟩
      · have hl0 : l.length = 0 := by omega
        have hl0' : ¬ (0 : Int) < (l.length : Int) := by omega
        clear hs hno hgp hp hg hl0
        go_wp2_with fail
        go_meet
        exact ⟨by rw [hd.out], rfl⟩
  case rest =>
    obtain ⟨rfl, rfl⟩ := hcut
    go_upto_if 20 with (fail)
    go_cut [5] (fun s5 wx => s5 = .int .i64 (sg l : Nat) ∧ wx = w.alloc (.cells #[.int .i64 0, .int .i64 0] 23))
    case first =>
      rcases sg_cases l with ⟨r, hlr, hs⟩ | ⟨hs, hno⟩
      · have hd := decide_eq_true hs
        have Hs := Lib.hid hs
        rw [hd]
        clear hs hlr hd
        go_wp2_with fail
        go_meet
        exact ⟨by rw [Hs.out]; rfl, rfl⟩
      · have hd : decide (sg l = 1) = false := by rw [hs]; rfl
        have Hs := Lib.hid hs
        rw [hd]
        clear hs hno hd
        go_wp2_with fail
        go_meet
        exact ⟨by rw [Hs.out]; rfl, rfl⟩
    case rest =>
      obtain ⟨rfl, rfl⟩ := hcut
      go_wp2_with fail
      refine (hr1.out _).mono ?_; rintro e w1 ⟨rfl, rfl⟩
      clear hr1
      cases hc : cut l with
      | bad n =>
        have Hp := Lib.hid (parse_bad hc)
        have hw := cut_bad_ways hc
        have Hl := Lib.hid (rfl : l.length = l.length)
        clear hc
        rcases hw with ⟨h1, rfl⟩ | ⟨h1, h2, h3, rfl⟩ | ⟨h1, h2, h3, rfl, h4⟩
        · have h1b : ((pt l : Int) == (sg l : Int)) = true := by rw [h1]; simp
          clear h1 hr2
          go_wp2_with fail
          refine bodyPost_ret (v := rparseV ((0, 0), 11, (sg l : Int))) (by simp [results, Tryd.results20, go_sem, rparseV]) rfl ⟨by rw [Hp.out], B0.out⟩
        · have h1b : ((pt l : Int) == (sg l : Int)) = false := by simpa using (by omega : ¬ (pt l : Int) = (sg l : Int))
          have hix := rstr_at l (pt l) (by omega)
          have hne : ((l[pt l].toNat : Int) == 46) = false := by
            rw [List.getElem?_eq_getElem h2] at h3
            have : ¬ (l[pt l].toNat : Int) = 46 := fun e => h3 (by rw [UInt8.toNat_inj.1 (show l[pt l].toNat = (46 : UInt8).toNat by show l[pt l].toNat = 46; omega)])
            simpa using this
          clear h1 h3 hr2
          go_wp2_with fail
          refine bodyPost_ret (v := rparseV ((0, 0), 11, (pt l : Int))) (by simp [results, Tryd.results20, go_sem, rparseV]) rfl ⟨by rw [Hp.out], B0.out⟩
        · have h1b : ((pt l : Int) == (sg l : Int)) = false := by simpa using (by omega : ¬ (pt l : Int) = (sg l : Int))
          have hix := rstr_at l (pt l) (by omega)
          have hne : ((l[pt l].toNat : Int) == 46) = true := by
            rw [List.getElem?_eq_getElem h2] at h3
            rw [Option.some.inj h3]; rfl
          have hrr := Lib.hid (hr2.out h2)
          have hen2 : pt l + 1 ≤ en l := by unfold en; omega
          have hen := en_le l h2
          clear h1 h3 hr2
          go_wp2_with fail
          refine (hrr.out _).mono ?_; rintro e w1 ⟨rfl, rfl⟩
          rcases h4 with h4 | ⟨h4, h5⟩
          · have hbk : ((en l : Int) - (pt l : Int) - 1 == 0) = true := by rw [show (en l : Int) - (pt l : Int) - 1 = 0 by omega]; rfl
            clear hrr
            have H4 := Lib.hid h4
            clear h4
            go_wp2_with fail
            refine bodyPost_ret (v := rparseV ((0, 0), 11, (en l : Int))) (by simp [results, Tryd.results20, go_sem, rparseV]) rfl ⟨by rw [Hp.out], B0.out⟩
          · have hbk : ((en l : Int) - (pt l : Int) - 1 == 0) = false := by simpa using (by omega : ¬ (en l : Int) - (pt l : Int) - 1 = 0)
            clear hrr
            go_wp2_with fail
            refine bodyPost_ret (v := rparseV ((0, 0), 11, (en l : Int))) (by simp [results, Tryd.results20, go_sem, rparseV]) rfl ⟨by rw [Hp.out], B0.out⟩
      | ok neg d e =>
        have hbk := cut_back hc
        have haccE : acc l l.length = vals (d ++ e) := by rw [acc_end, cut_digits hc]
        obtain ⟨hd, he, _⟩ := cut_ok hc
        have hneg := (cut_ok_text hc).2.2
        have hpo := Lib.hid (parse_ok hc)
        have h9 := vals_le (allDg_app hd he)
        have hpg : pt l ≠ sg l := fun e => by unfold cut at hc; rw [if_pos e] at hc; cases hc
        have h1b : ((pt l : Int) == (sg l : Int)) = false := by simpa using (by omega : ¬ (pt l : Int) = (sg l : Int))
        have hel : e.length ≤ l.length := by
          rcases hbk with ⟨_, h⟩ | ⟨_, _, h1, h2, _⟩
          · rw [h]; simp
          · omega
        have HaccE := Lib.hid haccE
        have H9 := Lib.hid h9
        have Hneg := Lib.hid hneg
        have Hbk := Lib.hid hbk
        clear hc haccE hd he hneg h9 hpg hbk
        go_upto_region 8 with (fail)
        clear h1b
        go_cut [39] (fun s39 wx => s39 = .bool (decide (pt l < l.length)) ∧ wx = w.alloc (.cells #[.int .i64 0, .int .i64 0] 23))
        case first =>
          rcases Hbk.out with ⟨h1, _⟩ | ⟨h1, h2, _⟩
          · have hd : Hid (decide (pt l < l.length) = false) := decide_eq_false (by omega)
            have hlt : ¬ pt l < l.length := by omega
            clear h1 hr2
            go_wp2_with fail
            go_meet
            exact ⟨by rw [hd.out], rfl⟩
          · have hd : Hid (decide (pt l < l.length) = true) := decide_eq_true h1
            have hix := rstr_at l (pt l) (by omega)
            have hne : ((l[pt l].toNat : Int) == 46) = true := by
              rw [List.getElem?_eq_getElem h1] at h2
              rw [Option.some.inj h2]; rfl
            clear h2 hr2
            go_wp2_with fail
            go_meet
            exact ⟨by rw [hd.out], rfl⟩
        case rest =>
          obtain ⟨rfl, rfl⟩ := hcut
          go_upto_if 39 with (fail)
          go_cut [7, 8] (fun s7 s8 wx => s7 = .int .i64 (l.length : Nat) ∧ s8 = .int .i64 (e.length : Nat) ∧ wx = w.alloc (.cells #[.int .i64 0, .int .i64 0] 23))
          case first =>
            rcases Hbk.out with ⟨h1, h2⟩ | ⟨h1, h2, h3, h4, h5⟩
            · rw [decide_eq_false (show ¬ pt l < l.length by omega)]
              have H1 := Lib.hid h1
              have H2 := Lib.hid h2
              clear h1 h2 hr2
              go_wp2_with fail
              go_meet
              exact ⟨by rw [H1.out], by rw [H2.out]; rfl, rfl⟩
            · rw [decide_eq_true h1]
              have hrr := Lib.hid (hr2.out h1)
              have h5' : e.length ≠ 0 := by simpa using h5
              have hbz : ((en l : Int) - (pt l : Int) - 1 == 0) = false := by simpa using (by omega : ¬ (en l : Int) - (pt l : Int) - 1 = 0)
              have hsub : (en l : Int) - (pt l : Int) - 1 = (e.length : Nat) := by omega
              have Hsub := Lib.hid hsub
              have H3 := Lib.hid h3
              have hen : en l ≤ 1000000 := by omega
              clear h2 h3 h4 h5 h5' hr2 hsub
              go_wp2_with fail
              refine (hrr.out _).mono ?_; rintro e' w1 ⟨rfl, rfl⟩
              clear hrr
              go_wp2_with fail
              go_meet
              exact ⟨by rw [H3.out], by rw [Hsub.out], rfl⟩
          case rest =>
            obtain ⟨rfl, rfl, rfl⟩ := hcut
            clear hr2 Hbk hp hgp
            go_wp2_with fail
            have hz0 : w.heap.size < (w.alloc (.cells #[.int .i64 0, .int .i64 0] 23)).heap.size := by simp
            go_loopw [9, 10] (fun s9 s10 wr => ∃ i n : Nat, sg l ≤ i ∧ i ≤ l.length ∧ s10 = .int .i64 (i : Nat) ∧ n ≤ 1000000 ∧ Hid (n = (acc l i).length ∧ Below (w.alloc (.cells #[.int .i64 0, .int .i64 0] 23)).heap.size (w.alloc (.cells #[.int .i64 0, .int .i64 0] 23)) wr ∧ wr.ownsRow (w.alloc (.cells #[.int .i64 0, .int .i64 0] 23)).heap.size 5 1 s9 n (ints (acc l i)))) (fun _ s10 _ => l.length - (intOf s10).toNat)
            case atStart => exact ⟨sg l, 0, Nat.le_refl _, hg, rfl, by omega, by rw [acc_start]; rfl, Below.refl _ _, by rw [acc_start]; exact World.ownsRow_nil _ _ _ _⟩
            case round =>
              obtain ⟨i, n, hgi, hil, rfl, hn, H⟩ := hrel
              by_cases hlt : i < l.length
              · obtain ⟨hn2, hB, hO⟩ := H.out
                have hix := rstr_at l i (by omega)
                have hcd := Lib.hid (fun W => risdigit_calls l[i] W)
                have hacc := acc_step l i hgi hlt
                have hB255 := UInt8.toNat_lt l[i]
                cases hdg : dg l[i] with
                | false =>
                  rw [hdg] at hcd hacc
                  rw [if_neg (by simp), List.append_nil] at hacc
                  have Hacc := Lib.hid hacc
                  clear hacc hdg hn2 hB hO
                  go_wp2_with fail
                  refine (hcd.out _).mono ?_; rintro e' w1 ⟨rfl, rfl⟩
                  clear hcd
                  go_wp2_with fail
                  go_roundw
                  case rel => exact ⟨i + 1, n, by omega, hlt, by go_num, hn, by rw [Hacc.out]; exact H.out⟩
                  case measure => simp [intOf]; omega
                | true =>
                  have hdgn := (dg_iff _).1 hdg
                  rw [hdg] at hcd hacc
                  rw [if_pos rfl] at hacc
                  have Hacc := Lib.hid hacc
                  have hlen := acc_len l i
                  have hn3 : n + 1 ≤ 1000000 := by
                    have h1 := acc_len l (i + 1)
                    rw [hacc, List.length_append, List.length_singleton] at h1
                    omega
                  have HB := Lib.hid hB
                  have HO := Lib.hid hO
                  have Hn := Lib.hid hn2
                  have hbs := hB.size
                  have hdv : Hid (((l[i].toNat : Int) - 48) = ((dv l[i] : Nat) : Int)) := by show _ = _; unfold dv; omega
                  have hnews : ∀ W : World, ∀ j u, (ints [dv l[i]])[j]? = some u → (W.alloc (.cells #[.int .u8 ((l[i].toNat : Int) - 48)] 5)).cell? ((⟨W.heap.size, 0, none⟩ : Addr).add j) = some u := fun W j u hu => by
                    rw [hdv.out]
                    exact World.news_of_block (heap_new W (.cells #[.int .u8 ((dv l[i] : Nat) : Int)] 5)) j u hu
                  have Hnews := Lib.hid hnews
                  clear hacc hdg hn2 hB hO H hlen hnews
                  go_wp2_with fail
                  refine (hcd.out _).mono ?_; rintro e' w1 ⟨rfl, rfl⟩
                  clear hcd
                  go_wp2_with (at_builtin; refine wpList_append_lies _ rfl _ _ _ (by rfl) (w.alloc (.cells #[.int .i64 0, .int .i64 0] 23)).heap.size 5 i0 _ 1 1 Tryd.underlying45 Hi.out Hz0.out Hz1.out Hz2.out rfl (by omega) _ n _ (by rfl) (own_alloc HO.out _) ⟨wr.heap.size, 0, none⟩ 1 1 (ints [dv l[i]]) (by rfl) rfl (Hnews.out wr) (ints_one _) (by omega) (by unfold maxLen; omega) (by omega) (by simp at hbs ⊢; omega) _ rfl ?_)
                  intro g2 cap2 w3 hown3 hgrow hat hlt2
                  have Hown3 := Lib.hid hown3
                  have hB3 := Lib.hid ((kb_alloc HB.out (Nat.le_refl _) (.cells #[.int .u8 ((l[i].toNat : Int) - 48)] 5)).grown hgrow (by simp at hbs ⊢; omega) (own_ge HO.out))
                  clear hown3 hgrow hat hlt2 HB HO Hnews
                  go_wp2_with fail
                  go_roundw
                  case rel =>
                    refine ⟨i + 1, n + 1, by omega, hlt, by go_num, hn3, by rw [Hacc.out, List.length_append, ← Hn.out]; rfl, hB3.out, ?_⟩
                    rw [Hacc.out, ints_app, show (w.alloc (.cells #[.int .i64 0, .int .i64 0] 23)).heap.size = w.heap.size + 1 by simp]
                    exact Hown3.out
                  case measure => simp [intOf]; omega
              · obtain rfl : i = l.length := by omega
                have hq := H.out.2.2
                have hB := Lib.hid H.out.2.1
                rw [HaccE.out] at hq
                have hdr := DR.own hq
                have hdec := Lib.hid (rdecimal_calls (decide (sg l = 1)) (vals (d ++ e)) _ (e.length : Int) wr hdr H9.out (by omega) (by omega))
                have hsg1 : ((sg l : Int) == 1) = decide (sg l = 1) := by rcases sg_cases l with ⟨_, _, h⟩ | ⟨h, _⟩ <;> rw [h] <;> rfl
                clear hq hdr H hg
                go_wp2_with fail
                refine hdec.out.mono ?_; rintro e' w5 ⟨rfl, b5⟩
                have hB5 := hB.out.trans (b5.mono hB.out.size)
                have B5 := Lib.hid (B0.out.trans (hB5.mono B0.out.size))
                have c0 : w5.cell? ⟨w.heap.size, 0, none⟩ = some (.int .i64 0) := (hB5.cell (p := ⟨w.heap.size, 0, none⟩) hz0).trans (by simp [go_sem])
                have c1 : w5.cell? ⟨w.heap.size, 1, none⟩ = some (.int .i64 0) := (hB5.cell (p := ⟨w.heap.size, 1, none⟩) hz0).trans (by simp [go_sem])
                have f0 : w5.frozen? ⟨w.heap.size, 0, none⟩ = false := (hB5.frozen (p := ⟨w.heap.size, 0, none⟩) hz0).trans (by simp [go_sem])
                have f1 : w5.frozen? ⟨w.heap.size, 1, none⟩ = false := (hB5.frozen (p := ⟨w.heap.size, 1, none⟩) hz0).trans (by simp [go_sem])
                have hzw : w.heap.size < w5.heap.size := Nat.lt_of_lt_of_le hz0 hB5.size
                rw [Hneg.out] at hpo
                clear hdec hB b5 hB5 hsg1
                cases ho : decOf (decide (sg l = 1)) (valN (vals (d ++ e))) (e.length : Int) with
                | none =>
                  have hp1 := hpo.out
                  rw [ho] at hp1
                  have Hp := Lib.hid hp1
                  rw [show rdecV none = Value.tuple #[.agg #[.int .i64 0, .int .i64 0], .bool false] from rfl]
                  clear hp1 ho
                  go_wp2_with fail
                  refine bodyPost_ret (v := rparseV ((0, 0), 12, 0)) (by simp [results, Tryd.results20, go_sem, rparseV, c0, c1, hzw, Nat.ne_of_lt hzw]) rfl ⟨by rw [Hp.out], ?_⟩
                  exact kb_alloc ((B5.out.setCell (by simp) _).setCell (by simp) _) (Nat.le_refl _) _
                | some r =>
                  obtain ⟨a, k⟩ := r
                  have hp1 := hpo.out
                  rw [ho] at hp1
                  have Hp := Lib.hid hp1
                  rw [show rdecV (some (a, k)) = Value.tuple #[.agg #[.int .i64 a, .int .i64 (k : Nat)], .bool true] from rfl]
                  clear hp1 ho
                  go_wp2_with fail
                  refine bodyPost_ret (v := rparseV ((a, (k : Int)), 0, 0)) (by simp [results, Tryd.results20, go_sem, rparseV, c0, c1, hzw, Nat.ne_of_lt hzw]) rfl ⟨by rw [Hp.out], ?_⟩
                  exact kb_alloc ((B5.out.setCell (by simp) _).setCell (by simp) _) (Nat.le_refl _) _

end Go.Proofs.YtmbpldnclnahmaaDoor
