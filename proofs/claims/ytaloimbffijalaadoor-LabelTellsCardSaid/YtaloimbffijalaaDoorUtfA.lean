/- Walks of package utf's small functions: holds, match, fit. -/
import Derived.Test.YtaloimbffijalaaDoorRows
import Derived.Test.YtaloimbffijalaaDoorUtfPlain
import Derived.WalkKit
import Derived.WalkSpells
import Derived.WalkLawsBesides
import Derived.Handy
import Derived.StillTailTactics
import Derived.Deep.QuietTactic
import Derived.BigQuiet
import Derived.Lib.Hide
set_option linter.unusedVariables false
set_option linter.unusedSimpArgs false
namespace Go.Proofs.YtaloimbffijalaaDoor
open Go.RowKit

set_option maxHeartbeats 400000 in
theorem holds_calls (lo hi c : Int) (w : World) :
    Calls Tryd.prog 53 #[.agg #[.int .u8 lo, .int .u8 hi], .int .u8 c] w fun e w' => e = .returned (.bool (Utf.inR lo hi c)) ∧ Below w.heap.size w w' := by
  by_cases h1 : lo ≤ c
  · go_enter Tryd.func53, Tryd.ntmps53
    go_wp2
    go_ret
    exact ⟨by simp [Utf.inR, h1], (Below.refl _ _).alloc (Nat.le_refl _) _⟩
  · have h1' : decide (lo ≤ c) = false := by simpa using h1
    go_enter Tryd.func53, Tryd.ntmps53
    go_wp2
    go_ret
    exact ⟨by simp [Utf.inR, h1'], (Below.refl _ _).alloc (Nat.le_refl _) _⟩


theorem below_on {B : Nat} {w wr w' : World} (hb : Below B w wr) (hz : B ≤ wr.heap.size) (h2 : Below wr.drew.heap.size wr.drew w') : Below B w w' := hb.drew.trans (h2.mono hz)
theorem below_out {w w' : World} {o : Obj} (hb : Below (w.heap.size + 1) (w.alloc o) w') : Below w.heap.size w w' := ((Below.refl _ _).alloc (Nat.le_refl _) _).trans (hb.mono (by omega))

set_option maxHeartbeats 1000000 in
theorem match_calls (n l0 h0 l1 h1 l2 h2 l3 h3 : Int) (s : ByteArray) (w : World) (hn0 : 0 ≤ n) (hn4 : n ≤ 4) (hs : s.size ≤ maxLen) :
    Calls Tryd.prog 54 #[.agg #[.int .i64 n, .int .u8 l0, .int .u8 h0, .int .u8 l1, .int .u8 h1, .int .u8 l2, .int .u8 h2, .int .u8 l3, .int .u8 h3], .string s] w fun e w' =>
      e = .returned (.tuple #[.int .i64 (Utf.fits ([(l0, h0), (l1, h1), (l2, h2), (l3, h3)].take n.toNat) s.data.toList).1, .bool (Utf.fits ([(l0, h0), (l1, h1), (l2, h2), (l3, h3)].take n.toNat) s.data.toList).2]) ∧ Below w.heap.size w w' := by
  unfold maxLen at hs
  go_enter Tryd.func54, Tryd.ntmps54
  go_wp2_with fail
  go_loopw [6] (fun v wr => ∃ k : Nat, Utf.Upto ([(l0, h0), (l1, h1), (l2, h2), (l3, h3)].take n.toNat) s.data.toList k ∧ v = .int .i64 k ∧ Below (w.heap.size + 1) (w.alloc (.cells #[.int .i64 n, .int .u8 l0, .int .u8 h0, .int .u8 l1, .int .u8 h1, .int .u8 l2, .int .u8 h2, .int .u8 l3, .int .u8 h3] 74)) wr) (fun v _ => (4 - intOf v).toNat)
  case atStart => exact ⟨0, Utf.upto_zero _ _, rfl, Below.refl _ _⟩
  case round =>
    obtain ⟨k, hup, rfl, hb⟩ := hrel
    have hkn := hup.inB
    have hks := hup.inL
    simp only [List.length_take, List.length_cons, List.length_nil] at hkn
    have c0 : wr.cell? ⟨w.heap.size, 0, none⟩ = some (.int .i64 n) := by rw [hb.cell (by simp)]; simp
    have Hup := Lib.hid hup
    clear hup
    obtain ⟨ki, hki⟩ : ∃ ki : Int, (k : Int) = ki := ⟨_, rfl⟩
    rw [hki]
    by_cases hlt : ki < n
    · have hk4 : (k = 0 ∧ ki = 0) ∨ (k = 1 ∧ ki = 1) ∨ (k = 2 ∧ ki = 2) ∨ (k = 3 ∧ ki = 3) := by omega
      have tr : decide (ki < n) = true := by simpa using hlt
      have c1 : wr.cell? ⟨w.heap.size, 1, none⟩ = some (.int .u8 l0) := by rw [hb.cell (by simp)]; simp
      have c2 : wr.cell? ⟨w.heap.size, 2, none⟩ = some (.int .u8 h0) := by rw [hb.cell (by simp)]; simp
      have c3 : wr.cell? ⟨w.heap.size, 3, none⟩ = some (.int .u8 l1) := by rw [hb.cell (by simp)]; simp
      have c4 : wr.cell? ⟨w.heap.size, 4, none⟩ = some (.int .u8 h1) := by rw [hb.cell (by simp)]; simp
      have c5 : wr.cell? ⟨w.heap.size, 5, none⟩ = some (.int .u8 l2) := by rw [hb.cell (by simp)]; simp
      have c6 : wr.cell? ⟨w.heap.size, 6, none⟩ = some (.int .u8 h2) := by rw [hb.cell (by simp)]; simp
      have c7 : wr.cell? ⟨w.heap.size, 7, none⟩ = some (.int .u8 l3) := by rw [hb.cell (by simp)]; simp
      have c8 : wr.cell? ⟨w.heap.size, 8, none⟩ = some (.int .u8 h3) := by rw [hb.cell (by simp)]; simp
      have hz : w.heap.size + 1 ≤ wr.heap.size := by have := hb.size; simpa using this
      by_cases hl : k < s.size
      · have byk := Lib.hid (Utf.byte_at s k hl)
        rcases hk4 with ⟨rfl, rfl⟩ | ⟨rfl, rfl⟩ | ⟨rfl, rfl⟩ | ⟨rfl, rfl⟩
        · have g : ((0 : Int) == (s.size : Int)) = false := by rw [beq_eq_false_iff_ne]; omega
          have hl' : (0 : Int) < (s.size : Int) := by omega
          have hkn' : 0 < n.toNat := by omega
          cases hx : Utf.inR l0 h0 ((s[0]'hl).toNat : Int)
          · go_wp2_with fail
            go_still_tail 12, (by kernel_rfl)
            change wpList _ _ _ _ _ wr.drew
            go_wp2_with (go_at_call 53; refine (holds_calls _ _ _ _).mono ?_; rintro e w' ⟨rfl, hb2⟩)
            go_ret2
            exact ⟨by rw [Utf.upto_no Hup.out (List.getElem?_take_of_lt hkn') byk.out hx]; rfl, below_out (below_on hb hz hb2)⟩
          · go_wp2_with fail
            go_still_tail 12, (by kernel_rfl)
            change wpList _ _ _ _ _ wr.drew
            go_wp2_with (go_at_call 53; refine (holds_calls _ _ _ _).mono ?_; rintro e w' ⟨rfl, hb2⟩)
            go_roundw
            case rel => exact ⟨0 + 1, Utf.upto_yes Hup.out (List.getElem?_take_of_lt hkn') byk.out hx, rfl, below_on hb hz hb2⟩
            case measure => simp [intOf]
        · have g : ((1 : Int) == (s.size : Int)) = false := by rw [beq_eq_false_iff_ne]; omega
          have hl' : (1 : Int) < (s.size : Int) := by omega
          have hkn' : 1 < n.toNat := by omega
          cases hx : Utf.inR l1 h1 ((s[1]'hl).toNat : Int)
          · go_wp2_with fail
            go_still_tail 12, (by kernel_rfl)
            change wpList _ _ _ _ _ wr.drew
            go_wp2_with (go_at_call 53; refine (holds_calls _ _ _ _).mono ?_; rintro e w' ⟨rfl, hb2⟩)
            go_ret2
            exact ⟨by rw [Utf.upto_no Hup.out (List.getElem?_take_of_lt hkn') byk.out hx]; rfl, below_out (below_on hb hz hb2)⟩
          · go_wp2_with fail
            go_still_tail 12, (by kernel_rfl)
            change wpList _ _ _ _ _ wr.drew
            go_wp2_with (go_at_call 53; refine (holds_calls _ _ _ _).mono ?_; rintro e w' ⟨rfl, hb2⟩)
            go_roundw
            case rel => exact ⟨1 + 1, Utf.upto_yes Hup.out (List.getElem?_take_of_lt hkn') byk.out hx, rfl, below_on hb hz hb2⟩
            case measure => simp [intOf]
        · have g : ((2 : Int) == (s.size : Int)) = false := by rw [beq_eq_false_iff_ne]; omega
          have hl' : (2 : Int) < (s.size : Int) := by omega
          have hkn' : 2 < n.toNat := by omega
          cases hx : Utf.inR l2 h2 ((s[2]'hl).toNat : Int)
          · go_wp2_with fail
            go_still_tail 12, (by kernel_rfl)
            change wpList _ _ _ _ _ wr.drew
            go_wp2_with (go_at_call 53; refine (holds_calls _ _ _ _).mono ?_; rintro e w' ⟨rfl, hb2⟩)
            go_ret2
            exact ⟨by rw [Utf.upto_no Hup.out (List.getElem?_take_of_lt hkn') byk.out hx]; rfl, below_out (below_on hb hz hb2)⟩
          · go_wp2_with fail
            go_still_tail 12, (by kernel_rfl)
            change wpList _ _ _ _ _ wr.drew
            go_wp2_with (go_at_call 53; refine (holds_calls _ _ _ _).mono ?_; rintro e w' ⟨rfl, hb2⟩)
            go_roundw
            case rel => exact ⟨2 + 1, Utf.upto_yes Hup.out (List.getElem?_take_of_lt hkn') byk.out hx, rfl, below_on hb hz hb2⟩
            case measure => simp [intOf]
        · have g : ((3 : Int) == (s.size : Int)) = false := by rw [beq_eq_false_iff_ne]; omega
          have hl' : (3 : Int) < (s.size : Int) := by omega
          have hkn' : 3 < n.toNat := by omega
          cases hx : Utf.inR l3 h3 ((s[3]'hl).toNat : Int)
          · go_wp2_with fail
            go_still_tail 12, (by kernel_rfl)
            change wpList _ _ _ _ _ wr.drew
            go_wp2_with (go_at_call 53; refine (holds_calls _ _ _ _).mono ?_; rintro e w' ⟨rfl, hb2⟩)
            go_ret2
            exact ⟨by rw [Utf.upto_no Hup.out (List.getElem?_take_of_lt hkn') byk.out hx]; rfl, below_out (below_on hb hz hb2)⟩
          · go_wp2_with fail
            go_still_tail 12, (by kernel_rfl)
            change wpList _ _ _ _ _ wr.drew
            go_wp2_with (go_at_call 53; refine (holds_calls _ _ _ _).mono ?_; rintro e w' ⟨rfl, hb2⟩)
            go_roundw
            case rel => exact ⟨3 + 1, Utf.upto_yes Hup.out (List.getElem?_take_of_lt hkn') byk.out hx, rfl, below_on hb hz hb2⟩
            case measure => simp [intOf]
      · have hsl := Utf.size_len s
        have hl' : (s.size : Int) = ki := by omega
        have g : (ki == (s.size : Int)) = true := by rw [beq_iff_eq]; omega
        have hlen : s.data.toList.length ≤ k := by rw [Utf.size_len]; omega
        have Hl := Lib.hid hl'
        have Hk := Lib.hid hki
        clear hl' hsl hki
        go_wp2_with fail
        go_quiet (fail)
        go_wp2
        go_ret2
        exact ⟨by rw [Utf.upto_out Hup.out (by simp; omega) hlen, Hk.out]; rfl, below_out (below_drewN hb nq)⟩
    · have fa : decide (ki < n) = false := by simpa using hlt
      have hkn2 : (k : Int) = n := by omega
      have Hk := Lib.hid hkn2
      clear hkn2
      go_wp2
      go_ret2
      exact ⟨by rw [Utf.upto_end Hup.out (by simp; omega), Hk.out]; rfl, below_out hb⟩

end Go.Proofs.YtaloimbffijalaaDoor
