/- The walks of package openword's common, and of its cursor's start (layer 17). -/
import Derived.Test.YthniemoganoapaaDoorOpStart
import Derived.Test.YthniemoganoapaaDoorOpA
set_option maxRecDepth 100000
set_option linter.unusedVariables false
set_option linter.unusedSimpArgs false
namespace Go.Proofs.YthniemoganoapaaDoor
open Go.RowKit
attribute [local go_sem ↓] Go.wp_at_zero Go.wp_at_succ

set_option maxHeartbeats 8000000 in
theorem common_calls (l t : List UInt8) (w : World) (hl : l.length ≤ maxLen) (ht : t.length ≤ maxLen) :
    Calls Tryd.prog 51 #[.string (str l), .string (str t)] w fun e w' => e = .returned (.int .i64 (Ow.com l t : Nat)) ∧ Below w.heap.size w w' := by
  have hz1 := str_size l
  have hz2 := str_size t
  unfold maxLen at hl ht
  obtain ⟨C, hC⟩ : ∃ C, C = Ow.com l t := ⟨_, rfl⟩
  rw [← hC]
  have HC := Lib.hid hC
  clear hC
  go_enter Tryd.func51, Tryd.ntmps51
  go_wp2_with fail
  go_loopw [5] (fun v wr => ∃ n : Nat, v = .int .i64 n ∧ n ≤ l.length ∧ n ≤ t.length ∧ Hid (C = Ow.com (l.drop n) (t.drop n) + n) ∧ Hid (Below w.heap.size w wr)) (fun v _ => l.length - (intOf v).toNat)
  case atStart => exact ⟨0, rfl, Nat.zero_le _, Nat.zero_le _, Lib.hid HC.out, Lib.hid (Below.refl _ _)⟩
  case round =>
    clear HC
    obtain ⟨n, rfl, hn1, hn2, HI, HB⟩ := hrel
    by_cases h1 : n < l.length
    · have d1 : decide ((n : Int) < (l.length : Int)) = true := decide_eq_true (by omega)
      have i1 : n < (str l).size := by rw [hz1]; exact h1
      by_cases h2 : n < t.length
      · have d2 : decide ((n : Int) < (t.length : Int)) = true := decide_eq_true (by omega)
        have i2 : n < (str t).size := by rw [hz2]; exact h2
        by_cases e : (str l)[n]'i1 = (str t)[n]'i2
        · have b1 : (((str l)[n].toNat : Int) == ((str t)[n].toNat : Int)) = true := by simp [e]
          have hr := Lib.hid (show C = Ow.com (l.drop (n + 1)) (t.drop (n + 1)) + (n + 1) by rw [HI.out, Ow.com_step h1 h2 e]; omega)
          have hw : IntKind.i64.wrap ((n : Int) + 1) = ((n + 1 : Nat) : Int) := by rw [show (n : Int) + 1 = ((n + 1 : Nat) : Int) by omega]; exact IntWalk.i64_in _ (by omega)
          clear e HI
          go_upto_region 2 with fail
          go_quiet (fail)
          go_wp2
          go_roundw
          case rel => exact ⟨n + 1, by go_num, h1, h2, hr, Lib.hid (below_drewN HB.out _)⟩
          case measure => simp [intOf]; omega
        · have b1 : (((str l)[n].toNat : Int) == ((str t)[n].toNat : Int)) = false := by simpa using byte_ne e
          have hr := Lib.hid (show C = n by rw [HI.out, Ow.com_stop (fun _ _ => e)]; omega)
          clear e HI
          go_upto_region 2 with fail
          go_quiet (fail)
          go_wp2
          go_ret
          exact ⟨by rw [hr.out]; rfl, below_drewN HB.out _⟩
      · have d2 : decide ((n : Int) < (t.length : Int)) = false := decide_eq_false (by omega)
        have hr := Lib.hid (show C = n by rw [HI.out, Ow.com_stop (fun _ h => absurd h h2)]; omega)
        clear HI
        go_upto_region 2 with fail
        go_quiet (fail)
        go_wp2
        go_ret
        exact ⟨by rw [hr.out]; rfl, below_drewN HB.out _⟩
    · have d1 : decide ((n : Int) < (l.length : Int)) = false := decide_eq_false (by omega)
      have hr := Lib.hid (show C = n by rw [HI.out, Ow.com_stop (fun h _ => absurd h h1)]; omega)
      clear HI
      go_upto_region 2 with fail
      go_quiet (fail)
      go_wp2
      go_ret
      exact ⟨by rw [hr.out]; rfl, below_drewN HB.out _⟩

theorem cut_off (l : List UInt8) (k : Int) (j : Nat) (hk : k = j) (h : j ≤ l.length) (W : World) : (Instr.slice 9 (.string (str l)) (some (.int .i64 k)) none none).run Tryd.prog W = .ok (.string (str (l.drop j))) W := by
  subst hk
  rw [run_slice_string_from_if W _ _ _ _ Tryd.underlying9, if_pos ⟨by omega, by rw [str_size]; omega⟩]
  congr 2
  exact str_ext (by rw [ext_list, str_size]; simp)
def stCells : Array Value := #[.string ⟨#[]⟩, .string (str [35, 32, 84, 89, 80, 69, 32]), .string (str [35, 32, 85, 78, 73, 84, 32]), .string (str [35, 32, 72, 69, 76, 80, 32]), .string (str [35, 32, 69, 79, 70])]
theorem st_at (k : Nat) (hk : k < 5) : ∃ t : List UInt8, t.length ≤ 10 ∧ Ow.sts.drop k = t :: Ow.sts.drop (k + 1) ∧ ∀ w : World, (Instr.index 93 (.agg stCells) (.int .i64 k)).run Tryd.prog w = .ok (.string (str t)) w := by
  match k, hk with
  | 0, _ => exact ⟨[], by decide, rfl, fun _ => by kernel_rfl⟩
  | 1, _ => exact ⟨[35, 32, 84, 89, 80, 69, 32], by decide, rfl, fun _ => by kernel_rfl⟩
  | 2, _ => exact ⟨[35, 32, 85, 78, 73, 84, 32], by decide, rfl, fun _ => by kernel_rfl⟩
  | 3, _ => exact ⟨[35, 32, 72, 69, 76, 80, 32], by decide, rfl, fun _ => by kernel_rfl⟩
  | 4, _ => exact ⟨[35, 32, 69, 79, 70], by decide, rfl, fun _ => by kernel_rfl⟩
  | k + 5, h => exact absurd h (by omega)

set_option maxHeartbeats 8000000 in
theorem start_calls (b k : Nat) (s : List UInt8) (w : World) (h : Cur w b s k) (hs : s.length ≤ 1000000) :
    Calls Tryd.prog 42 #[.pointer (some ⟨b, 0, none⟩)] w fun e w' =>
      e = .returned (.tuple #[.int .i64 ((Ow.startF (s.drop k) Ow.sts 0 0).1 : Nat), .bool (Ow.startF (s.drop k) Ow.sts 0 0).2.1]) ∧ w.grownBy w' (some b) ∧ Cur w' b s (k + (Ow.startF (s.drop k) Ow.sts 0 0).2.2) := by
  have hss := str_size s
  have H := Lib.hid h
  have HG := Lib.hid (sc_below (Below.refl w.heap.size w) (some b))
  have HL := Lib.hid (Ow.startF_le (s.drop k) Ow.sts 0 0 (Nat.zero_le _))
  have hlen := List.length_drop (l := s) (i := k)
  obtain ⟨c0, c1, fr, lt, le, tab⟩ := h
  obtain ⟨-, ⟨tt, ff, hst⟩, -, -, -, hl1, -, -⟩ := tab
  obtain ⟨X, hX⟩ : ∃ X, X = Ow.startF (s.drop k) Ow.sts 0 0 := ⟨_, rfl⟩
  rw [← hX] at HL ⊢
  have HX := Lib.hid (show X = Ow.startF (s.drop k) (Ow.sts.drop 0) 0 0 from hX)
  have hcut := cut_off s k k rfl le
  have HC := Lib.hid (fun t W (ht : t.length ≤ 10) => common_calls (s.drop k) t W (by unfold maxLen; omega) (by unfold maxLen; omega))
  have HCL := Lib.hid (fun t => Ow.com_le (s.drop k) t)
  clear hX
  generalize s.drop k = l at *
  go_enter Tryd.func42, Tryd.ntmps42
  go_upto_region 1 with fail
  go_quiet (fail)
  generalize hW1 : w.drewN _ = W1
  have H1 := Lib.hid (show Cur W1 b s k by rw [← hW1]; exact H.out.drewN _)
  have HG1 := Lib.hid (show w.grownBy W1 (some b) by rw [← hW1]; exact sc_drewN HG.out _)
  have hst1 : W1.heap[1]? = some (.cells stCells tt ff) := by rw [← hW1]; exact hst
  clear hW1 hst H HG c0 c1 fr lt
  have hsz : 1 < W1.heap.size := (Array.getElem?_eq_some_iff.1 hst1).1
  go_wp2_with (refine wpList_load_row rfl 93 _ rfl 1 rfl tt stCells ff _ hst1 Tryd.underlying93 rfl (by kernel_rfl) ?_)
  clear hst1 hsz
  go_loopw [19, 5] (fun v u wr => ∃ i m : Nat, v = .int .i64 i ∧ u = .int .i64 m ∧ i ≤ 5 ∧ m ≤ l.length ∧ Hid (X = Ow.startF l (Ow.sts.drop i) i m) ∧ Hid (Cur wr b s k) ∧ Hid (w.grownBy wr (some b))) (fun v _ _ => 5 - (intOf v).toNat)
  case atStart => exact ⟨0, 0, rfl, rfl, by omega, Nat.zero_le _, HX, H1, HG1⟩
  case round =>
    clear HX H1 HG1
    obtain ⟨i, m, rfl, rfl, hi, hm, HX, H, HG⟩ := hrel
    by_cases h5 : i < 5
    · obtain ⟨t, ht, hsd, hix⟩ := st_at i h5
      have d5 : decide ((i : Int) < 5) = true := decide_eq_true (by omega)
      have hC := HC.out t
      have HCt := Lib.hid (HCL.out t)
      have hsz := str_size t
      have HX2 := Lib.hid (show X = if 0 < Ow.com l t ∧ Ow.com l t = t.length then (i, true, Ow.com l t) else Ow.startF l (Ow.sts.drop (i + 1)) (i + 1) (max m (Ow.com l t)) by rw [HX.out, hsd]; rfl)
      clear HX hsd
      generalize Ow.com l t = n at *
      have HC1 := Lib.hid (fun W => hC W ht)
      have hnl := HCt.out.1
      have hwi : IntKind.i64.wrap ((i : Int) + 1) = ((i + 1 : Nat) : Int) := by rw [show (i : Int) + 1 = ((i + 1 : Nat) : Int) by omega]; exact IntWalk.i64_in _ (by omega)
      clear hC
      go_wp2_with fail
      refine (HC1.out _).mono ?_; rintro e w1 ⟨rfl, b1⟩
      have H1 := Lib.hid (H.out.below b1)
      have HG1 := Lib.hid (sc_trans HG.out (sc_below b1 _))
      clear HC1 b1 H HG
      obtain ⟨c0, c1, fr, lt, -, -⟩ := H1.out
      by_cases h0 : 0 < n
      · have d0 : decide ((0 : Int) < (n : Int)) = true := decide_eq_true (by omega)
        have d0' : decide (0 < n) = true := decide_eq_true h0
        by_cases hq : n = t.length
        · have e1 : ((n : Int) == (t.length : Int)) = true := beq_iff_eq.2 (by omega)
          have hr := Lib.hid (show X = (i, true, n) by rw [HX2.out, if_pos ⟨h0, hq⟩])
          have hw : IntKind.i64.wrap ((k : Int) + (n : Int)) = ((k + n : Nat) : Int) := by rw [show (k : Int) + (n : Int) = ((k + n : Nat) : Int) by omega]; exact IntWalk.i64_in _ (by omega)
          have hkn : k + n ≤ s.length := by omega
          clear HX2
          go_wp2
          go_ret2
          exact ⟨by rw [hr.out]; rfl, sc_set HG1.out, by rw [hr.out]; have hmv := H1.out.move _ hkn; rw [show ((k + n : Nat) : Int) = (k : Int) + (t.length : Int) by omega] at hmv; exact hmv⟩
        · have e1 : ((n : Int) == (t.length : Int)) = false := beq_eq_false_iff_ne.2 (by omega)
          have hr := Lib.hid (show X = Ow.startF l (Ow.sts.drop (i + 1)) (i + 1) (max m n) by rw [HX2.out, if_neg (fun h => hq h.2)])
          clear HX2
          go_wp2
          go_roundw
          case rel => exact ⟨i + 1, max m n, by go_num, by first | rfl | go_num | (congr 1; omega), by omega, by omega, hr, H1, HG1⟩
          case measure => simp [intOf]; omega
      · have d0 : decide ((0 : Int) < (n : Int)) = false := decide_eq_false (by omega)
        have d0' : decide (0 < n) = false := decide_eq_false h0
        have hr := Lib.hid (show X = Ow.startF l (Ow.sts.drop (i + 1)) (i + 1) (max m n) by rw [HX2.out, if_neg (fun h => h0 h.1)])
        clear HX2
        go_wp2
        go_roundw
        case rel => exact ⟨i + 1, max m n, by go_num, by first | rfl | go_num | (congr 1; omega), by omega, by omega, hr, H1, HG1⟩
        case measure => simp [intOf]; omega
    · have d5 : decide ((i : Int) < 5) = false := decide_eq_false (by omega)
      obtain rfl : i = 5 := by omega
      have hr := Lib.hid (show X = (0, m == 0, m) from HX.out)
      have hw : IntKind.i64.wrap ((k : Int) + (m : Int)) = ((k + m : Nat) : Int) := by rw [show (k : Int) + (m : Int) = ((k + m : Nat) : Int) by omega]; exact IntWalk.i64_in _ (by omega)
      have hkm : k + m ≤ s.length := by omega
      have e2 : ((m : Int) == 0) = (m == 0) := by
        by_cases h : m = 0
        · subst h; rfl
        · rw [beq_eq_false_iff_ne.2 h, beq_eq_false_iff_ne.2 (by omega)]
      obtain ⟨c0, c1, fr, lt, -, -⟩ := H.out
      clear HX
      go_wp2
      go_ret2
      exact ⟨by rw [hr.out]; first | rfl | (simp only [e2]; rfl), sc_set HG.out, by rw [hr.out]; exact H.out.move _ hkm⟩

end Go.Proofs.YthniemoganoapaaDoor
