/- The texts UtfA, UtfB, one behind the other. -/
import Derived.Test.YthniemoganoapaaDoorRows
import Derived.Test.YthniemoganoapaaDoorPlA
import Derived.WalkKit
import Derived.WalkSpells
import Derived.WalkLawsBesides
import Derived.Handy
import Derived.StillTailTactics
import Derived.Deep.QuietTactic
import Derived.BigQuiet
import Derived.Lib.Hide
import Derived.Deep.RegionHeld3

/- Walks of package utf's small functions: holds, match, fit. -/
set_option maxRecDepth 100000
set_option linter.unusedVariables false
set_option linter.unusedSimpArgs false
namespace Go.Proofs.YthniemoganoapaaDoor
open Go.RowKit

set_option maxHeartbeats 400000 in
theorem holds_calls (lo hi c : Int) (w : World) :
    Calls Tryd.prog 73 #[.agg #[.int .u8 lo, .int .u8 hi], .int .u8 c] w fun e w' => e = .returned (.bool (Utf.inR lo hi c)) ∧ Below w.heap.size w w' := by
  by_cases h1 : lo ≤ c
  · go_enter Tryd.func73, Tryd.ntmps73
    go_wp2
    go_ret
    exact ⟨by simp [Utf.inR, h1], (Below.refl _ _).alloc (Nat.le_refl _) _⟩
  · have h1' : decide (lo ≤ c) = false := by simpa using h1
    go_enter Tryd.func73, Tryd.ntmps73
    go_wp2
    go_ret
    exact ⟨by simp [Utf.inR, h1'], (Below.refl _ _).alloc (Nat.le_refl _) _⟩


theorem below_on {B : Nat} {w wr w' : World} (hb : Below B w wr) (hz : B ≤ wr.heap.size) (h2 : Below wr.drew.heap.size wr.drew w') : Below B w w' := hb.drew.trans (h2.mono hz)
theorem below_out {w w' : World} {o : Obj} (hb : Below (w.heap.size + 1) (w.alloc o) w') : Below w.heap.size w w' := ((Below.refl _ _).alloc (Nat.le_refl _) _).trans (hb.mono (by omega))

set_option maxHeartbeats 1000000 in
theorem match_calls (n l0 h0 l1 h1 l2 h2 l3 h3 : Int) (s : ByteArray) (w : World) (hn0 : 0 ≤ n) (hn4 : n ≤ 4) (hs : s.size ≤ maxLen) :
    Calls Tryd.prog 74 #[.agg #[.int .i64 n, .int .u8 l0, .int .u8 h0, .int .u8 l1, .int .u8 h1, .int .u8 l2, .int .u8 h2, .int .u8 l3, .int .u8 h3], .string s] w fun e w' =>
      e = .returned (.tuple #[.int .i64 (Utf.fits ([(l0, h0), (l1, h1), (l2, h2), (l3, h3)].take n.toNat) s.data.toList).1, .bool (Utf.fits ([(l0, h0), (l1, h1), (l2, h2), (l3, h3)].take n.toNat) s.data.toList).2]) ∧ Below w.heap.size w w' := by
  unfold maxLen at hs
  go_enter Tryd.func74, Tryd.ntmps74
  go_wp2_with fail
  go_loopw [6] (fun v wr => ∃ k : Nat, Utf.Upto ([(l0, h0), (l1, h1), (l2, h2), (l3, h3)].take n.toNat) s.data.toList k ∧ v = .int .i64 k ∧ Below (w.heap.size + 1) (w.alloc (.cells #[.int .i64 n, .int .u8 l0, .int .u8 h0, .int .u8 l1, .int .u8 h1, .int .u8 l2, .int .u8 h2, .int .u8 l3, .int .u8 h3] 114)) wr) (fun v _ => (4 - intOf v).toNat)
  case atStart => exact ⟨0, Utf.upto_zero _ _, rfl, Below.refl _ _⟩
  case round =>
    obtain ⟨k, hup, rfl, hb⟩ := hrel
    have hkn := hup.inB
    have hks := hup.inL
    simp only [List.length_take, List.length_cons, List.length_nil] at hkn
    have c0 : wr.cell? ⟨w.heap.size, 0, none⟩ = some (.int .i64 n) := by rw [hb.cell (by simp)]; simp
    have Hup := Lib.hid hup
    clear hup
    obtain ⟨ki, hki⟩ : ∃ ki : Int, (k : Int) = ki := ⟨_, rfl⟩
    rw [hki]
    by_cases hlt : ki < n
    · have hk4 : (k = 0 ∧ ki = 0) ∨ (k = 1 ∧ ki = 1) ∨ (k = 2 ∧ ki = 2) ∨ (k = 3 ∧ ki = 3) := by omega
      have tr : decide (ki < n) = true := by simpa using hlt
      have c1 : wr.cell? ⟨w.heap.size, 1, none⟩ = some (.int .u8 l0) := by rw [hb.cell (by simp)]; simp
      have c2 : wr.cell? ⟨w.heap.size, 2, none⟩ = some (.int .u8 h0) := by rw [hb.cell (by simp)]; simp
      have c3 : wr.cell? ⟨w.heap.size, 3, none⟩ = some (.int .u8 l1) := by rw [hb.cell (by simp)]; simp
      have c4 : wr.cell? ⟨w.heap.size, 4, none⟩ = some (.int .u8 h1) := by rw [hb.cell (by simp)]; simp
      have c5 : wr.cell? ⟨w.heap.size, 5, none⟩ = some (.int .u8 l2) := by rw [hb.cell (by simp)]; simp
      have c6 : wr.cell? ⟨w.heap.size, 6, none⟩ = some (.int .u8 h2) := by rw [hb.cell (by simp)]; simp
      have c7 : wr.cell? ⟨w.heap.size, 7, none⟩ = some (.int .u8 l3) := by rw [hb.cell (by simp)]; simp
      have c8 : wr.cell? ⟨w.heap.size, 8, none⟩ = some (.int .u8 h3) := by rw [hb.cell (by simp)]; simp
      have hz : w.heap.size + 1 ≤ wr.heap.size := by have := hb.size; simpa using this
      by_cases hl : k < s.size
      · have byk := Lib.hid (Utf.byte_at s k hl)
        rcases hk4 with ⟨rfl, rfl⟩ | ⟨rfl, rfl⟩ | ⟨rfl, rfl⟩ | ⟨rfl, rfl⟩
        · have g : ((0 : Int) == (s.size : Int)) = false := by rw [beq_eq_false_iff_ne]; omega
          have hl' : (0 : Int) < (s.size : Int) := by omega
          have hkn' : 0 < n.toNat := by omega
          cases hx : Utf.inR l0 h0 ((s[0]'hl).toNat : Int)
          · go_wp2_with fail
            go_still_tail 12, (by kernel_rfl)
            change wpList _ _ _ _ _ wr.drew
            go_wp2_with (go_at_call 73; refine (holds_calls _ _ _ _).mono ?_; rintro e w' ⟨rfl, hb2⟩)
            go_ret2
            exact ⟨by rw [Utf.upto_no Hup.out (List.getElem?_take_of_lt hkn') byk.out hx]; rfl, below_out (below_on hb hz hb2)⟩
          · go_wp2_with fail
            go_still_tail 12, (by kernel_rfl)
            change wpList _ _ _ _ _ wr.drew
            go_wp2_with (go_at_call 73; refine (holds_calls _ _ _ _).mono ?_; rintro e w' ⟨rfl, hb2⟩)
            go_roundw
            case rel => exact ⟨0 + 1, Utf.upto_yes Hup.out (List.getElem?_take_of_lt hkn') byk.out hx, rfl, below_on hb hz hb2⟩
            case measure => simp [intOf]
        · have g : ((1 : Int) == (s.size : Int)) = false := by rw [beq_eq_false_iff_ne]; omega
          have hl' : (1 : Int) < (s.size : Int) := by omega
          have hkn' : 1 < n.toNat := by omega
          cases hx : Utf.inR l1 h1 ((s[1]'hl).toNat : Int)
          · go_wp2_with fail
            go_still_tail 12, (by kernel_rfl)
            change wpList _ _ _ _ _ wr.drew
            go_wp2_with (go_at_call 73; refine (holds_calls _ _ _ _).mono ?_; rintro e w' ⟨rfl, hb2⟩)
            go_ret2
            exact ⟨by rw [Utf.upto_no Hup.out (List.getElem?_take_of_lt hkn') byk.out hx]; rfl, below_out (below_on hb hz hb2)⟩
          · go_wp2_with fail
            go_still_tail 12, (by kernel_rfl)
            change wpList _ _ _ _ _ wr.drew
            go_wp2_with (go_at_call 73; refine (holds_calls _ _ _ _).mono ?_; rintro e w' ⟨rfl, hb2⟩)
            go_roundw
            case rel => exact ⟨1 + 1, Utf.upto_yes Hup.out (List.getElem?_take_of_lt hkn') byk.out hx, rfl, below_on hb hz hb2⟩
            case measure => simp [intOf]
        · have g : ((2 : Int) == (s.size : Int)) = false := by rw [beq_eq_false_iff_ne]; omega
          have hl' : (2 : Int) < (s.size : Int) := by omega
          have hkn' : 2 < n.toNat := by omega
          cases hx : Utf.inR l2 h2 ((s[2]'hl).toNat : Int)
          · go_wp2_with fail
            go_still_tail 12, (by kernel_rfl)
            change wpList _ _ _ _ _ wr.drew
            go_wp2_with (go_at_call 73; refine (holds_calls _ _ _ _).mono ?_; rintro e w' ⟨rfl, hb2⟩)
            go_ret2
            exact ⟨by rw [Utf.upto_no Hup.out (List.getElem?_take_of_lt hkn') byk.out hx]; rfl, below_out (below_on hb hz hb2)⟩
          · go_wp2_with fail
            go_still_tail 12, (by kernel_rfl)
            change wpList _ _ _ _ _ wr.drew
            go_wp2_with (go_at_call 73; refine (holds_calls _ _ _ _).mono ?_; rintro e w' ⟨rfl, hb2⟩)
            go_roundw
            case rel => exact ⟨2 + 1, Utf.upto_yes Hup.out (List.getElem?_take_of_lt hkn') byk.out hx, rfl, below_on hb hz hb2⟩
            case measure => simp [intOf]
        · have g : ((3 : Int) == (s.size : Int)) = false := by rw [beq_eq_false_iff_ne]; omega
          have hl' : (3 : Int) < (s.size : Int) := by omega
          have hkn' : 3 < n.toNat := by omega
          cases hx : Utf.inR l3 h3 ((s[3]'hl).toNat : Int)
          · go_wp2_with fail
            go_still_tail 12, (by kernel_rfl)
            change wpList _ _ _ _ _ wr.drew
            go_wp2_with (go_at_call 73; refine (holds_calls _ _ _ _).mono ?_; rintro e w' ⟨rfl, hb2⟩)
            go_ret2
            exact ⟨by rw [Utf.upto_no Hup.out (List.getElem?_take_of_lt hkn') byk.out hx]; rfl, below_out (below_on hb hz hb2)⟩
          · go_wp2_with fail
            go_still_tail 12, (by kernel_rfl)
            change wpList _ _ _ _ _ wr.drew
            go_wp2_with (go_at_call 73; refine (holds_calls _ _ _ _).mono ?_; rintro e w' ⟨rfl, hb2⟩)
            go_roundw
            case rel => exact ⟨3 + 1, Utf.upto_yes Hup.out (List.getElem?_take_of_lt hkn') byk.out hx, rfl, below_on hb hz hb2⟩
            case measure => simp [intOf]
      · have hsl := Utf.size_len s
        have hl' : (s.size : Int) = ki := by omega
        have g : (ki == (s.size : Int)) = true := by rw [beq_iff_eq]; omega
        have hlen : s.data.toList.length ≤ k := by rw [Utf.size_len]; omega
        have Hl := Lib.hid hl'
        have Hk := Lib.hid hki
        clear hl' hsl hki
        go_wp2_with fail
        go_quiet (fail)
        go_wp2
        go_ret2
        exact ⟨by rw [Utf.upto_out Hup.out (by simp; omega) hlen, Hk.out]; rfl, below_out (below_drewN hb nq)⟩
    · have fa : decide (ki < n) = false := by simpa using hlt
      have hkn2 : (k : Int) = n := by omega
      have Hk := Lib.hid hkn2
      clear hkn2
      go_wp2
      go_ret2
      exact ⟨by rw [Utf.upto_end Hup.out (by simp; omega), Hk.out]; rfl, below_out hb⟩

end Go.Proofs.YthniemoganoapaaDoor

/- The walk of package utf's 'fit'. -/
set_option maxRecDepth 100000
set_option linter.unusedVariables false
set_option linter.unusedSimpArgs false
namespace Go.Proofs.YthniemoganoapaaDoor
open Go.RowKit

/-- what the table of shapes holds -/
def shapeCells : Array Value := #[.int .i64 1, .int .u8 0, .int .u8 127, .int .u8 0, .int .u8 0, .int .u8 0, .int .u8 0, .int .u8 0, .int .u8 0,
  .int .i64 2, .int .u8 194, .int .u8 223, .int .u8 128, .int .u8 191, .int .u8 0, .int .u8 0, .int .u8 0, .int .u8 0,
  .int .i64 3, .int .u8 224, .int .u8 224, .int .u8 160, .int .u8 191, .int .u8 128, .int .u8 191, .int .u8 0, .int .u8 0,
  .int .i64 3, .int .u8 225, .int .u8 236, .int .u8 128, .int .u8 191, .int .u8 128, .int .u8 191, .int .u8 0, .int .u8 0,
  .int .i64 3, .int .u8 237, .int .u8 237, .int .u8 128, .int .u8 159, .int .u8 128, .int .u8 191, .int .u8 0, .int .u8 0,
  .int .i64 3, .int .u8 238, .int .u8 239, .int .u8 128, .int .u8 191, .int .u8 128, .int .u8 191, .int .u8 0, .int .u8 0,
  .int .i64 4, .int .u8 240, .int .u8 240, .int .u8 144, .int .u8 191, .int .u8 128, .int .u8 191, .int .u8 128, .int .u8 191,
  .int .i64 4, .int .u8 241, .int .u8 243, .int .u8 128, .int .u8 191, .int .u8 128, .int .u8 191, .int .u8 128, .int .u8 191,
  .int .i64 4, .int .u8 244, .int .u8 244, .int .u8 128, .int .u8 143, .int .u8 128, .int .u8 191, .int .u8 128, .int .u8 191]
def ShapesIn (w : World) : Prop := ∃ t fr, w.heap[2]? = some (.cells shapeCells t fr)
theorem ShapesIn.below {w w' : World} {B : Nat} (h : ShapesIn w) (hb : Below B w w') (hB : 2 < B) : ShapesIn w' := by
  obtain ⟨t, fr, h⟩ := h
  exact ⟨t, fr, by rw [hb.block _ hB]; exact h⟩
theorem ShapesIn.room {w : World} (h : ShapesIn w) : 2 < w.heap.size := by
  obtain ⟨t, fr, h⟩ := h
  exact (Array.getElem?_eq_some_iff.1 h).1

theorem shape_at (k : Nat) (hk : k < 9) : ∃ n l0 h0 l1 h1 l2 h2 l3 h3 : Int, 1 ≤ n ∧ n ≤ 4 ∧ Utf.shapes[k]? = some ([(l0, h0), (l1, h1), (l2, h2), (l3, h3)].take n.toNat) ∧
    ∀ w : World, (Instr.index 115 (.agg shapeCells) (.int .i64 k)).run Tryd.prog w = .ok (.agg #[.int .i64 n, .int .u8 l0, .int .u8 h0, .int .u8 l1, .int .u8 h1, .int .u8 l2, .int .u8 h2, .int .u8 l3, .int .u8 h3]) w := by
  match k, hk with
  | 0, _ => exact ⟨1, 0, 127, 0, 0, 0, 0, 0, 0, by omega, by omega, rfl, fun _ => by kernel_rfl⟩
  | 1, _ => exact ⟨2, 194, 223, 128, 191, 0, 0, 0, 0, by omega, by omega, rfl, fun _ => by kernel_rfl⟩
  | 2, _ => exact ⟨3, 224, 224, 160, 191, 128, 191, 0, 0, by omega, by omega, rfl, fun _ => by kernel_rfl⟩
  | 3, _ => exact ⟨3, 225, 236, 128, 191, 128, 191, 0, 0, by omega, by omega, rfl, fun _ => by kernel_rfl⟩
  | 4, _ => exact ⟨3, 237, 237, 128, 159, 128, 191, 0, 0, by omega, by omega, rfl, fun _ => by kernel_rfl⟩
  | 5, _ => exact ⟨3, 238, 239, 128, 191, 128, 191, 0, 0, by omega, by omega, rfl, fun _ => by kernel_rfl⟩
  | 6, _ => exact ⟨4, 240, 240, 144, 191, 128, 191, 128, 191, by omega, by omega, rfl, fun _ => by kernel_rfl⟩
  | 7, _ => exact ⟨4, 241, 243, 128, 191, 128, 191, 128, 191, by omega, by omega, rfl, fun _ => by kernel_rfl⟩
  | 8, _ => exact ⟨4, 244, 244, 128, 143, 128, 191, 128, 191, by omega, by omega, rfl, fun _ => by kernel_rfl⟩

set_option maxHeartbeats 1000000 in
theorem fit_calls (s : ByteArray) (at' : Nat) (w : World) (hat : at' < s.size) (hs : s.size ≤ maxLen) (hT : ShapesIn w) :
    Calls Tryd.prog 71 #[.string s, .int .i64 at'] w fun e w' =>
      e = .returned (.tuple #[.int .i64 (Utf.front (s.data.toList.drop at')).1, .bool (Utf.front (s.data.toList.drop at')).2]) ∧ Below w.heap.size w w' := by
  have hs' := hs
  unfold maxLen at hs'
  obtain ⟨tt, fr, hsh⟩ := hT
  have hsz : 2 < w.heap.size := (Array.getElem?_eq_some_iff.1 hsh).1
  go_enter Tryd.func71, Tryd.ntmps71
  go_wp2_with (refine wpList_load_row rfl 115 _ rfl 2 rfl tt shapeCells fr _ hsh Tryd.underlying115 rfl (by kernel_rfl) ?_)
  go_loopw [9] (fun v wr => ∃ k : Nat, k ≤ 9 ∧ Utf.shapes.find? (Utf.opens s[at']) = (Utf.shapes.drop k).find? (Utf.opens s[at']) ∧ v = .int .i64 k ∧ Below w.heap.size w wr) (fun v _ => (9 - intOf v).toNat)
  case atStart => exact ⟨0, by omega, rfl, rfl, Below.refl _ _⟩
  case round =>
    obtain ⟨k, hk, hfi, rfl, hb⟩ := hrel
    have Hfi := Lib.hid hfi
    clear hfi
    have Hby := Lib.hid (Utf.byte_at s at' hat)
    have hz : w.heap.size ≤ wr.heap.size := hb.size
    have hat' : (at' : Int) < (s.size : Int) := by omega
    have hsl : ∀ w : World, (Instr.slice 9 (.string s) (some (.int .i64 at')) none none).run Tryd.prog w = .ok (.string (s.extract at' s.size)) w := fun w => by
      rw [run_slice_string_from_if w _ s _ _ Tryd.underlying9, if_pos (by omega)]; simp
    by_cases hlt : k < 9
    · obtain ⟨n, l0, h0, l1, h1, l2, h2, l3, h3, hn1, hn4, hB, hidx⟩ := shape_at k hlt
      have HB := Lib.hid hB
      clear hB
      cases hx : Utf.inR l0 h0 (s[at'].toNat : Int)
      · go_wp2_with fail
        obtain ⟨W1, hW1⟩ : ∃ W1 : World, W1 = wr.alloc (.cells #[.int .i64 n, .int .u8 l0, .int .u8 h0, .int .u8 l1, .int .u8 h1, .int .u8 l2, .int .u8 h2, .int .u8 l3, .int .u8 h3] 114) := ⟨_, rfl⟩
        rw [← hW1]
        have c0 : W1.cell? ⟨wr.heap.size, 0, none⟩ = some (.int .i64 n) := by rw [hW1]; simp
        have c1 : W1.cell? ⟨wr.heap.size, 1, none⟩ = some (.int .u8 l0) := by rw [hW1]; simp
        have c2 : W1.cell? ⟨wr.heap.size, 2, none⟩ = some (.int .u8 h0) := by rw [hW1]; simp
        have c3 : W1.cell? ⟨wr.heap.size, 3, none⟩ = some (.int .u8 l1) := by rw [hW1]; simp
        have c4 : W1.cell? ⟨wr.heap.size, 4, none⟩ = some (.int .u8 h1) := by rw [hW1]; simp
        have c5 : W1.cell? ⟨wr.heap.size, 5, none⟩ = some (.int .u8 l2) := by rw [hW1]; simp
        have c6 : W1.cell? ⟨wr.heap.size, 6, none⟩ = some (.int .u8 h2) := by rw [hW1]; simp
        have c7 : W1.cell? ⟨wr.heap.size, 7, none⟩ = some (.int .u8 l3) := by rw [hW1]; simp
        have c8 : W1.cell? ⟨wr.heap.size, 8, none⟩ = some (.int .u8 h3) := by rw [hW1]; simp
        have hz1 : W1.heap.size = wr.heap.size + 1 := by rw [hW1]; simp
        have hb1 : Below w.heap.size w W1 := by rw [hW1]; exact hb.alloc hz _
        have Hz1 := Lib.hid hz1
        clear hW1 hz1
        go_still_tail 6, (by kernel_rfl)
        change wpList _ _ _ _ _ W1.drew
        go_wp2_with (go_at_call 73; refine (holds_calls _ _ _ _).mono ?_; rintro e w' ⟨rfl, hb2⟩)
        go_roundw
        case rel => exact ⟨k + 1, by omega, Utf.find_no Hfi.out HB.out (by rw [Utf.take_opens _ _ (by omega)]; exact hx), by go_num, hb1.drew.trans (hb2.mono (by have := Hz1.out; simp; omega))⟩
        case measure => simp [intOf]; omega
      · go_wp2_with fail
        obtain ⟨W1, hW1⟩ : ∃ W1 : World, W1 = wr.alloc (.cells #[.int .i64 n, .int .u8 l0, .int .u8 h0, .int .u8 l1, .int .u8 h1, .int .u8 l2, .int .u8 h2, .int .u8 l3, .int .u8 h3] 114) := ⟨_, rfl⟩
        rw [← hW1]
        have c0 : W1.cell? ⟨wr.heap.size, 0, none⟩ = some (.int .i64 n) := by rw [hW1]; simp
        have c1 : W1.cell? ⟨wr.heap.size, 1, none⟩ = some (.int .u8 l0) := by rw [hW1]; simp
        have c2 : W1.cell? ⟨wr.heap.size, 2, none⟩ = some (.int .u8 h0) := by rw [hW1]; simp
        have c3 : W1.cell? ⟨wr.heap.size, 3, none⟩ = some (.int .u8 l1) := by rw [hW1]; simp
        have c4 : W1.cell? ⟨wr.heap.size, 4, none⟩ = some (.int .u8 h1) := by rw [hW1]; simp
        have c5 : W1.cell? ⟨wr.heap.size, 5, none⟩ = some (.int .u8 l2) := by rw [hW1]; simp
        have c6 : W1.cell? ⟨wr.heap.size, 6, none⟩ = some (.int .u8 h2) := by rw [hW1]; simp
        have c7 : W1.cell? ⟨wr.heap.size, 7, none⟩ = some (.int .u8 l3) := by rw [hW1]; simp
        have c8 : W1.cell? ⟨wr.heap.size, 8, none⟩ = some (.int .u8 h3) := by rw [hW1]; simp
        have hz1 : W1.heap.size = wr.heap.size + 1 := by rw [hW1]; simp
        have hb1 : Below w.heap.size w W1 := by rw [hW1]; exact hb.alloc hz _
        have Hz1 := Lib.hid hz1
        clear hW1 hz1
        go_still_tail 6, (by kernel_rfl)
        change wpList _ _ _ _ _ W1.drew
        go_wp2_with (go_at_call 73; refine (holds_calls _ _ _ _).mono ?_; rintro e w' ⟨rfl, hb2⟩)
        have hz2 : wr.heap.size < W1.drew.heap.size := by have := Hz1.out; simp; omega
        have d0 : w'.cell? ⟨wr.heap.size, 0, none⟩ = some (.int .i64 n) := by rw [hb2.cell hz2]; exact c0
        have d1 : w'.cell? ⟨wr.heap.size, 1, none⟩ = some (.int .u8 l0) := by rw [hb2.cell hz2]; exact c1
        have d2 : w'.cell? ⟨wr.heap.size, 2, none⟩ = some (.int .u8 h0) := by rw [hb2.cell hz2]; exact c2
        have d3 : w'.cell? ⟨wr.heap.size, 3, none⟩ = some (.int .u8 l1) := by rw [hb2.cell hz2]; exact c3
        have d4 : w'.cell? ⟨wr.heap.size, 4, none⟩ = some (.int .u8 h1) := by rw [hb2.cell hz2]; exact c4
        have d5 : w'.cell? ⟨wr.heap.size, 5, none⟩ = some (.int .u8 l2) := by rw [hb2.cell hz2]; exact c5
        have d6 : w'.cell? ⟨wr.heap.size, 6, none⟩ = some (.int .u8 h2) := by rw [hb2.cell hz2]; exact c6
        have d7 : w'.cell? ⟨wr.heap.size, 7, none⟩ = some (.int .u8 l3) := by rw [hb2.cell hz2]; exact c7
        have d8 : w'.cell? ⟨wr.heap.size, 8, none⟩ = some (.int .u8 h3) := by rw [hb2.cell hz2]; exact c8
        have hz3 : w.heap.size ≤ w'.heap.size := by have := hb2.size; omega
        have hz4 : wr.heap.size < w'.heap.size := by have := hb2.size; omega
        have hb3 : Below w.heap.size w w' := hb1.drew.trans (hb2.mono (by omega))
        have Hl := Lib.hid (show List.take (s.size - at') (s.data.toList.drop at') = s.data.toList.drop at' from List.take_of_length_le (by simp))
        have Hfit := Lib.hid (Utf.front_some Hby.out (Utf.find_yes Hfi.out HB.out (by rw [Utf.take_opens _ _ (by omega)]; exact hx)))
        go_region_held3 (fun x => x.cell? ⟨wr.heap.size, 0, none⟩ = some (.int .i64 n) ∧ x.cell? ⟨wr.heap.size, 1, none⟩ = some (.int .u8 l0) ∧ x.cell? ⟨wr.heap.size, 2, none⟩ = some (.int .u8 h0) ∧ x.cell? ⟨wr.heap.size, 3, none⟩ = some (.int .u8 l1) ∧ x.cell? ⟨wr.heap.size, 4, none⟩ = some (.int .u8 h1) ∧ x.cell? ⟨wr.heap.size, 5, none⟩ = some (.int .u8 l2) ∧ x.cell? ⟨wr.heap.size, 6, none⟩ = some (.int .u8 h2) ∧ x.cell? ⟨wr.heap.size, 7, none⟩ = some (.int .u8 l3) ∧ x.cell? ⟨wr.heap.size, 8, none⟩ = some (.int .u8 h3)) (first | exact ⟨d0, d1, d2, d3, d4, d5, d6, d7, d8⟩ | exact ⟨(hb4.cell hz4).trans d0, (hb4.cell hz4).trans d1, (hb4.cell hz4).trans d2, (hb4.cell hz4).trans d3, (hb4.cell hz4).trans d4, (hb4.cell hz4).trans d5, (hb4.cell hz4).trans d6, (hb4.cell hz4).trans d7, (hb4.cell hz4).trans d8⟩ | go_keep)
          ((first | (go_at_call 74; refine (match_calls _ _ _ _ _ _ _ _ _ _ _ (by omega) hn4 (by simp; omega)).mono ?_; rintro e w2 ⟨rfl, hb4⟩)))
        go_wp2
        go_ret2
        exact ⟨by rw [Hfit.out, Hl.out]; rfl, hb3.drew.trans (hb4.mono hz3)⟩
    · go_wp2
      go_ret2
      exact ⟨by rw [Utf.front_none Hby.out (by rw [Hfi.out, List.drop_of_length_le (by simp [Utf.shapes]; omega)]; rfl)]; rfl, hb⟩

end Go.Proofs.YthniemoganoapaaDoor
