/- The walk of the law OutRoom. -/
import Derived.Test.YtobpdeepbjpchaaOutK
import Derived.Laws.BytesArg
import Derived.Laws.OwnMore
import Derived.Deep.DeepCutAuto
namespace Go.Proofs.Ytobpdeepbjpchaa
open Go.RowKit

/-- a row of noughts -/
def Zeros (w : World) (b n : Nat) : Prop := b < w.heap.size ∧ ∀ j, j < n → w.cell? ⟨b, j, none⟩ = some (.int .u8 0)
theorem Zeros.grown {w w' : World} {b n : Nat} {row : Option Nat} (h : Zeros w b n) (hg : w.grownBy w' row) (hne : some b ≠ row) : Zeros w' b n :=
  ⟨Nat.lt_of_lt_of_le h.1 hg.size, fun j hj => (hg.cell_far ⟨b, j, none⟩ h.1 hne).trans (h.2 j hj)⟩
theorem Zeros.new (w : World) (n : Nat) (t : TypeId) : Zeros (w.alloc (.cells (madeCells #[.int .u8 0] n) t)) w.heap.size n := by
  refine ⟨by simp, fun j hj => ?_⟩
  have hb : (w.alloc (.cells (madeCells #[.int .u8 0] n) t)).heap[w.heap.size]? = some (.cells (madeCells #[.int .u8 0] n) t (0, 0)) := heap_alloc_new w _
  rw [Lib.cell_of_heap hb]
  rw [← Array.getElem?_toList, toList_madeCells_one]
  simp [hj]
def zeroText (n : Nat) : ByteArray := strOfNums (List.replicate n 0)
theorem zeroText_size (n : Nat) : (zeroText n).size = n := by unfold zeroText; rw [strOfNums_size]; simp
theorem zeros_text {w : World} {b n : Nat} (h : Zeros w b n) : (convert 33 9 (.slice (some ⟨b, 0, none⟩) n n)).run Try.prog w = .ok (.string (zeroText n)) w :=
  run_convert_bytes_arg w 33 5 Try.underlying33 Try.underlying5 b 0 n n (List.replicate n 0) (by simp) (fun i hi => by
    rw [Nat.zero_add, h.2 i hi]; simp [hi]) 9 Try.underlying9
theorem make_zeros (n : Nat) (hn : n ≤ 20000) (w : World) : (Instr.makeSlice 33 (.int .i64 (n : Int)) (.int .i64 (n : Int))).run Try.prog w = .ok (.slice (some ⟨w.heap.size, 0, none⟩) n n) (w.alloc (.cells (madeCells #[.int .u8 0] n) 5)) := by
  obtain ⟨i, hi, hz, h1, h2⟩ := info_parts (P := Try.prog) (t := 5) (z := .int .u8 0) (n := 1) (m := 1) (by kernel_rfl)
  have h := run_make (P := Try.prog) w 33 5 i (.int .u8 0) Try.underlying33 hi hz .i64 .i64 n n (by omega) (by omega) (by rw [h2]; omega) (by omega)
  rw [h, h1]
  simp [Value.cells]
theorem one_len (s : ByteArray) : lenN (fun i => [s].getD i ByteArray.empty) 1 = s.size := by simp [lenN]

set_option maxRecDepth 100000 in
set_option maxHeartbeats 8000000 in
theorem room_walk (x y : Int) (w : World) (hy : 0 ≤ y) (hy2 : y ≤ 255) :
    Calls Try.prog 5 #[.int .i64 x, .int .u8 y] w fun e w' => e = .returned (.bool true) ∧ Below w.heap.size w w' := by
  go_enter Try.func5, Try.ntmps5
  go_wp2_with fail
  refine (known_calls _).mono ?_; rintro e w1 ⟨rfl, b1⟩
  have B1 := Lib.hid b1
  clear b1
  go_wp2_with fail
  refine (new_calls _ _).mono ?_; rintro e w2 ⟨rfl, rfl⟩
  have O2 := OutAt.new x w1
  have b2 := (Below.refl w1.heap.size w1).alloc (Nat.le_refl _) (.cells #[.int .i64 (room x), .string ⟨#[]⟩, .bool false] 36)
  have B2 := Lib.hid (trans9 B1.out b2)
  have hz := B1.out.size
  have Hr := Lib.hid (room_cases x)
  generalize w1.alloc (.cells #[.int .i64 (room x), .string ⟨#[]⟩, .bool false] 36) = W2 at *
  generalize w1.heap.size = z at *
  have A2 := Lib.hid O2
  clear O2 b2 B1
  generalize room x = m at *
  have hms : m ≤ 20000 := A2.out.small
  go_upto_region 6 with (fail)
  go_cut [6] (fun s6 wx => s6 = .int .i64 (m : Nat) ∧ wx = W2)
  case first =>
    rcases Hr.out with ⟨h, e⟩ | ⟨h, h2, e⟩ | ⟨h, h2, e⟩
    all_goals
      have E := Lib.hid e
      clear Hr e
      go_wp2_with fail
      go_meet
      exact ⟨by rw [E.out]; try rfl, rfl⟩
  case rest =>
    obtain ⟨rfl, rfl⟩ := hcut
    clear Hr
    have hN : ∃ N : Nat, 200 ≤ N ∧ N ≤ 300 ∧ Hid ((N : Int) = y % 97 + 200) := ⟨(y % 97 + 200).toNat, by omega, by omega, by show _ = _; omega⟩
    obtain ⟨N, hN1, hN2, HN⟩ := hN
    go_upto_region 7 with (fail)
    go_cut [7] (fun s7 wx => s7 = .int .i64 (N : Nat) ∧ wx = wc)
    case first =>
      go_wp2_with fail
      go_meet
      exact ⟨by rw [HN.out], rfl⟩
    case rest =>
      obtain ⟨rfl, rfl⟩ := hcut
      have hmk := make_zeros N (by omega)
      have Z3 := Zeros.new wc N 5
      have b3 := (Below.refl wc.heap.size wc).alloc (Nat.le_refl _) (.cells (madeCells #[.int .u8 0] N) 5)
      have B3 := Lib.hid (trans9 B2.out b3)
      have A3 := Lib.hid (A2.out.below b3 A2.out.lt)
      have hzp := A2.out.lt
      have Hz3 := Lib.hid Z3
      clear B2 A2 Z3 b3
      go_wp2_with fail
      clear hmk
      generalize wc.alloc (.cells (madeCells #[.int .u8 0] N) 5) = W3 at *
      generalize wc.heap.size = pb at *
      go_loopw [9, 10] (fun s9 s10 wr => ∃ i p : Nat, i ≤ 100 ∧ s10 = .int .i64 i ∧ p ≤ m ∧ s9 = .int .i64 p ∧ Hid (p = i * N ∧ Below w.heap.size w wr ∧ Zeros wr pb N ∧ ∃ t, OutAt wr z m t false ∧ t.size = p)) (fun _ s10 _ => 120 - (intOf s10).toNat)
      case atStart => exact ⟨0, 0, by omega, rfl, by omega, rfl, by simp, B3.out, Hz3.out, _, A3.out, rfl⟩
      case round =>
        obtain ⟨i, p, hi, rfl, hp, rfl, H⟩ := hrel
        obtain ⟨hpi, hB, hZ, t, hA, ht⟩ := H.out
        have B4 := Lib.hid hB
        have A4 := Lib.hid hA
        have Z4 := Lib.hid hZ
        have Hpi := Lib.hid hpi
        have Ht := Lib.hid ht
        have nzp : some pb ≠ some z := by intro e; cases e; omega
        have hwz : w.heap.size ≤ z := hz
        have Nzp := Lib.hid nzp
        clear B3 A3 Hz3 H hB hA hpi ht nzp
        by_cases hc : p + N ≤ m
        · have hi1 : i + 1 ≤ 100 := by
            have h1 := Hpi.out
            have h2 : i * 200 ≤ i * N := Nat.mul_le_mul_left _ hN1
            omega
          have hcv := zeros_text hZ
          have hf : fitsB m t false (lenN (fun i => [zeroText N].getD i ByteArray.empty) 1) = true := by
            rw [one_len, zeroText_size]; unfold fitsB; rw [Ht.out]; simp; exact hc
          have hs1 : (zeroText N).size ≤ maxLen := by rw [zeroText_size]; unfold maxLen; omega
          have Hs : Hid (∀ s ∈ [zeroText N], s.size ≤ maxLen) := by intro s hs; obtain rfl : s = zeroText N := by simpa using hs
                                                                    exact hs1
          have b5 := (Below.refl wr.heap.size wr).alloc (Nat.le_refl _) (.cells #[.string (zeroText N)] 9)
          have Hp := Lib.hid (put_is (A4.out.below b5 A4.out.lt) (strRow_new wr [zeroText N] 9 (by unfold maxLen; simp) Hs.out) true _ hf rfl)
          have B5 := Lib.hid (trans9 B4.out b5)
          have Z5 := Lib.hid (Z4.out.grown (below_grown b5 none) (by simp))
          clear hf hs1 b5 hZ
          go_wp2_with fail
          refine Hp.out.mono ?_; rintro e w6 ⟨rfl, g6, a6⟩
          have B6 := Lib.hid (B5.out.grown g6 B5.out.size (fun k hk => by cases hk; exact hwz))
          have A6 := Lib.hid a6
          have Z6 := Lib.hid (Z5.out.grown g6 Nzp.out)
          have hsz : Hid ((cat t (catN (fun i => [zeroText N].getD i ByteArray.empty) 1)).size = p + N) := by
            show _ = _; rw [cat_size, catN_len, one_len, zeroText_size, Ht.out]
          have hpn : Hid (p + N = (i + 1) * N) := by show _ = _; rw [Hpi.out, Nat.succ_mul]
          clear g6 a6 hcv Hp
          go_wp2_with fail
          go_roundw
          case rel => exact ⟨i + 1, p + N, hi1, by go_num, hc, by go_num, hpn.out, B6.out, Z6.out, _, A6.out, hsz.out⟩
          case measure => simp [intOf]; omega
        · have d2 : ¬ ((p : Int) + (N : Int) ≤ (m : Int)) := by omega
          clear hZ
          have hL : ∃ L : Nat, L < N ∧ p + L = m := ⟨m - p, by omega, by omega⟩
          obtain ⟨L, hL1, hL2⟩ := hL
          have Hl2 := Lib.hid hL2
          go_upto_region 16 with (fail)
          go_cut [11] (fun s11 wx => s11 = .int .i64 (L : Nat) ∧ wx = wr)
          case first =>
            go_wp2_with fail
            go_meet
            exact ⟨by congr 1; have := Hl2.out; omega, rfl⟩
          case rest =>
            obtain ⟨rfl, rfl⟩ := hcut
            have hleft : leftOf m t false = L := by have := Ht.out; have := Hl2.out; unfold leftOf; simp; omega
            have Hleft := Lib.hid hleft
            have hmk := make_zeros L (by omega)
            have hms1 : L + 1 ≤ 20001 := by omega
            clear hleft hL2 hc d2
            go_wp2_with fail
            refine (left_calls _ _ _ _ _ A4.out).mono ?_; rintro e w5 ⟨rfl, b5⟩
            rw [Hleft.out]
            have Z6 := Zeros.new w5 L 5
            have b6 := trans9 b5 ((Below.refl w5.heap.size w5).alloc (Nat.le_refl _) (.cells (madeCells #[.int .u8 0] L) 5))
            have hcv := zeros_text Z6
            have b7 := trans9 b6 ((Below.refl _ (w5.alloc (.cells (madeCells #[.int .u8 0] L) 5))).alloc (Nat.le_refl _) (.cells #[.string (zeroText L)] 9))
            have hf : fitsB m t false (lenN (fun i => [zeroText L].getD i ByteArray.empty) 1) = true := by
              rw [one_len, zeroText_size]; unfold fitsB; rw [Ht.out]; have := Hl2.out; simp; omega
            have hs1 : (zeroText L).size ≤ maxLen := by rw [zeroText_size]; unfold maxLen; omega
            have Hs : Hid (∀ s ∈ [zeroText L], s.size ≤ maxLen) := by intro s hs; obtain rfl : s = zeroText L := by simpa using hs
                                                                      exact hs1
            have Hp := Lib.hid (put_is (A4.out.below b7 A4.out.lt) (strRow_at (w5.alloc (.cells (madeCells #[.int .u8 0] L) 5)) [zeroText L] 9 (w5.heap.size + 1) (by simp) (by unfold maxLen; simp) Hs.out) true _ hf rfl)
            have B7 := Lib.hid (trans9 B4.out b7)
            clear hf hs1 b6 b7 Z6
            have B5 := Lib.hid b5
            clear b5
            go_wp2_with fail
            refine Hp.out.mono ?_; rintro e w8 ⟨rfl, g8, a8⟩
            have B8 := Lib.hid (B7.out.grown g8 B7.out.size (fun k hk => by cases hk; exact hwz))
            have hsz : (cat t (catN (fun i => [zeroText L].getD i ByteArray.empty) 1)).size = m := by
              rw [cat_size, catN_len, one_len, zeroText_size, Ht.out]; exact Hl2.out
            have A8 : Hid (OutAt w8 z m (cat t (catN (fun i => [zeroText L].getD i ByteArray.empty) 1)) false) := a8
            clear g8 a8 hcv hmk Hp B7
            generalize cat t (catN (fun i => [zeroText L].getD i ByteArray.empty) 1) = T at *
            have Hsz := Lib.hid hsz
            have hl0 : leftOf m T false = 0 := by unfold leftOf; simp; omega
            have Hl0 := Lib.hid hl0
            clear hsz hl0
            go_wp2_with fail
            refine (len_calls _ _ _ _ _ A8.out).mono ?_; rintro e w9 ⟨rfl, rfl⟩
            rw [Hsz.out]
            go_wp2_with fail
            refine (left_calls _ _ _ _ _ A8.out).mono ?_; rintro e w9 ⟨rfl, b9⟩
            rw [Hl0.out]
            have B9 := Lib.hid (trans9 B8.out b9)
            have A9 := Lib.hid (A8.out.below b9 A8.out.lt)
            clear b9 B8 A8
            go_wp2_with fail
            refine (full_calls _ _ _ _ _ A9.out).mono ?_; rintro e w10 ⟨rfl, rfl⟩
            have b10 := (Below.refl w9.heap.size w9).alloc (Nat.le_refl _) (.cells #[.string ⟨#[120]⟩] 9)
            have hf2 : fitsB m T false (lenN (fun i => [(⟨#[120]⟩ : ByteArray)].getD i ByteArray.empty) 1) = false := by
              rw [one_len]; unfold fitsB; rw [Hsz.out]; rw [show (⟨#[120]⟩ : ByteArray).size = 1 from rfl]; simp
            have Hx : Hid (∀ s ∈ [(⟨#[120]⟩ : ByteArray)], s.size ≤ maxLen) := by show ∀ s ∈ [(⟨#[120]⟩ : ByteArray)], s.size ≤ maxLen; unfold maxLen; decide
            have Hp2 := Lib.hid (put_is (A9.out.below b10 A9.out.lt) (strRow_new w9 [(⟨#[120]⟩ : ByteArray)] 9 (by unfold maxLen; simp) Hx.out) false T hf2 rfl)
            have B10 := Lib.hid (trans9 B9.out b10)
            clear b10 hf2
            go_wp2_with fail
            refine Hp2.out.mono ?_; rintro e w11 ⟨rfl, g11, a11⟩
            have B11 := Lib.hid (B10.out.grown g11 B10.out.size (fun k hk => by cases hk; exact hwz))
            have A11 : Hid (OutAt w11 z m T true) := a11
            clear g11 a11 Hp2 B10 B9 A9
            go_wp2_with fail
            refine (full_calls _ _ _ _ _ A11.out).mono ?_; rintro e w12 ⟨rfl, rfl⟩
            go_wp2_with fail
            refine (len_calls _ _ _ _ _ A11.out).mono ?_; rintro e w12 ⟨rfl, rfl⟩
            rw [Hsz.out]
            go_wp2_with fail
            refine (put_is A11.out (strRow_nil _ (fun _ => ByteArray.empty)) false T rfl rfl).mono ?_; rintro e w13 ⟨rfl, g13, a13⟩
            have B13 := Lib.hid (B11.out.grown g13 B11.out.size (fun k hk => by cases hk; exact hwz))
            clear g13 a13
            go_wp2
            go_ret
            exact ⟨rfl, B13.out⟩
end Go.Proofs.Ytobpdeepbjpchaa
