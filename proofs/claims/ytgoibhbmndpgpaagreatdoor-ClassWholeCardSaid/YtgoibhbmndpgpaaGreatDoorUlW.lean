/- The texts LabelRow, UtfA, UtfB, UtfBd, LabelA, LabelB, LabelG, LabelH, one behind the other. -/
import Derived.Test.YtgoibhbmndpgpaaGreatDoorPlA
import Derived.Test.YtgoibhbmndpgpaaGreatDoorGrd
import Derived.Deep.AppendLies
import Derived.Deep.Slices
import Derived.Deep.Fields
import Derived.Test.YtgoibhbmndpgpaaGreatDoorRows
import Derived.WalkKit
import Derived.WalkSpells
import Derived.WalkLawsBesides
import Derived.Handy
import Derived.StillTailTactics
import Derived.Deep.QuietTactic
import Derived.BigQuiet
import Derived.Lib.Hide
import Derived.Deep.RegionHeld3
import Derived.Sort.Grow
import Derived.OwnWalk
import Derived.Lib.Bytealg
import Derived.Deep.DrawnRows
import Derived.Deep.DeepCutAuto

/- Rows of labels: as they came in, as they are made. -/
set_option maxRecDepth 100000
set_option linter.unusedVariables false
set_option linter.unusedSimpArgs false
namespace Go.Proofs.YtgoibhbmndpgpaaGreatDoor
open Go.RowKit Go.ChangeShapes Go.WideShapes Go.Deep

/-- a label's two cells -/
def encL (x : Lb) : List Value := [.string (str x.1), .string (str x.2)]
def lbCells : List Lb → List Value
  | [] => []
  | x :: l => .string (str x.1) :: .string (str x.2) :: lbCells l
theorem lbCells_get : ∀ (l : List Lb) (i : Nat) (x : Lb), l[i]? = some x → (lbCells l)[i * 2]? = some (.string (str x.1)) ∧ (lbCells l)[i * 2 + 1]? = some (.string (str x.2))
  | [], _, _, h => by simp at h
  | y :: l, 0, x, h => by obtain rfl : y = x := by simpa using h
                          exact ⟨rfl, rfl⟩
  | y :: l, i + 1, x, h => by
    have := lbCells_get l i x (by simpa using h)
    rw [lbCells, show (i + 1) * 2 = i * 2 + 1 + 1 by omega]
    exact this
theorem lbCells_at : ∀ (l : List Lb) (j : Nat) (u : Value), (lbCells l)[j]? = some u → ∃ x, l[j / 2]? = some x ∧ ((j % 2 = 0 ∧ u = .string (str x.1)) ∨ (j % 2 = 1 ∧ u = .string (str x.2)))
  | [], _, _, h => by simp [lbCells] at h
  | y :: l, 0, u, h => ⟨y, rfl, Or.inl ⟨rfl, by simpa [lbCells] using h.symm⟩⟩
  | y :: l, 1, u, h => ⟨y, rfl, Or.inr ⟨rfl, by simpa [lbCells] using h.symm⟩⟩
  | y :: l, j + 2, u, h => by
    obtain ⟨x, hx, h2⟩ := lbCells_at l j u (by simpa [lbCells] using h)
    exact ⟨x, by rw [show (j + 2) / 2 = j / 2 + 1 by omega]; simpa using hx, by rw [show (j + 2) % 2 = j % 2 by omega]; exact h2⟩

/-- a slice of labels -/
def LbRow (w : World) (v : Value) (l : List Lb) : Prop :=
  ∃ A cap, v = .slice A l.length cap ∧ l.length ≤ cap ∧ cap ≤ maxLen ∧ (A = none → cap = 0) ∧ (0 < l.length → ∃ b off, A = some ⟨b, off, none⟩ ∧ b < w.heap.size ∧ ∀ i p, l[i]? = some p → w.cell? ⟨b, off + i * 2, none⟩ = some (.string (str p.1)) ∧ w.cell? ⟨b, off + i * 2 + 1, none⟩ = some (.string (str p.2)))
theorem LbRow.below {w w' : World} {v : Value} {l : List Lb} (h : LbRow w v l) (hb : Below w.heap.size w w') : LbRow w' v l := by
  obtain ⟨A, cap, rfl, h1, h2, hn, h3⟩ := h
  refine ⟨A, cap, rfl, h1, h2, hn, fun h0 => ?_⟩
  obtain ⟨b, off, rfl, hlt, hc⟩ := h3 h0
  exact ⟨b, off, rfl, Nat.lt_of_lt_of_le hlt hb.size, fun i p hp => ⟨(hb.cell (p := ⟨b, off + i * 2, none⟩) hlt).trans (hc i p hp).1, (hb.cell (p := ⟨b, off + i * 2 + 1, none⟩) hlt).trans (hc i p hp).2⟩⟩
theorem LbRow.nil (w : World) : LbRow w (.slice none 0 0) [] := ⟨none, 0, rfl, Nat.le_refl _, by unfold maxLen; omega, fun _ => rfl, fun h => absurd h (by simp)⟩
/-- as many bytes in each as a string may have -/
abbrev Fit (l : List Lb) : Prop := ∀ x ∈ l, x.1.length ≤ maxLen ∧ x.2.length ≤ maxLen
/-- a row that the call owns -/
abbrev LbOwn (w : World) (base : Nat) (v : Value) (l : List Lb) : Prop := w.ownsRow base 48 2 v l.length (lbCells l)
theorem LbOwn.nil (w : World) (base : Nat) : LbOwn w base (.slice none 0 0) [] := ⟨rfl, Or.inl ⟨rfl, rfl⟩⟩
theorem LbOwn.row {w : World} {base : Nat} {v : Value} {l : List Lb} (h : LbOwn w base v l) : LbRow w v l := by
  obtain ⟨hl, h⟩ := h
  rcases h with ⟨rfl, h0⟩ | ⟨g, cap, cur, rfl, hb, hg, hn, hm, hs, ht⟩
  · exact ⟨none, 0, by rw [h0], by omega, by unfold maxLen; omega, fun _ => rfl, fun h => absurd h (by omega)⟩
  · refine ⟨_, cap, rfl, hn, hm, (by rintro ⟨⟩), fun _ => ⟨g, 0, rfl, (Array.getElem?_eq_some_iff.1 hg).1, fun i p hp => ?_⟩⟩
    obtain ⟨h1, h2⟩ := lbCells_get l i p hp
    have hi : i < l.length := by
      rcases Nat.lt_or_ge i l.length with h | h
      · exact h
      · rw [List.getElem?_eq_none h] at hp; cases hp
    refine ⟨?_, ?_⟩
    · rw [cell_of_row w g _ cur _ (0, 0) hg, ← h1, ← ht, List.getElem?_take_of_lt (by omega), Nat.zero_add]; simp
    · rw [cell_of_row w g _ cur _ (0, 0) hg, ← h2, ← ht, List.getElem?_take_of_lt (by omega), Nat.zero_add]; simp
/-- the cells of a row that came in, from a place on -/
theorem LbRow.news {w : World} {b off n cap : Nat} {l : List Lb} (h : ∀ i p, l[i]? = some p → w.cell? ⟨b, off + i * 2, none⟩ = some (.string (str p.1)) ∧ w.cell? ⟨b, off + i * 2 + 1, none⟩ = some (.string (str p.2))) :
    ∀ j u, (lbCells l)[j]? = some u → w.cell? ((⟨b, off, none⟩ : Addr).add j) = some u := fun j u hu => by
  obtain ⟨x, hx, h2⟩ := lbCells_at l j u hu
  obtain ⟨c1, c2⟩ := h _ _ hx
  rw [Go.WideShapes.add_plain]
  rcases h2 with ⟨hm, rfl⟩ | ⟨hm, rfl⟩
  · rw [← c1]; congr 2; omega
  · rw [← c2]; congr 2; omega

theorem trod_label {H : Type} {enc : TypeId × Value → H} {W : World} {base : Nat} {sp : Nat → Bool} {held : Bool} {fuel : Nat} {cs : List Value} {x : DataW H × List MemPlace}
    (h : DataW.trod enc Tryz.prog W base sp held fuel 48 cs = some x) : ∃ p : Lb, cs = encL p ∧ p.1.length ≤ maxLen ∧ p.2.length ≤ maxLen := by
  obtain ⟨xs, n, rfl, _, hlen, hxs, hf⟩ := DataW.trod_struct Tryz.underlying48 h
  have hc : Tryz.prog.cellsOf 48 = 2 := by kernel_rfl
  rw [hc] at hlen
  match cs, hlen with
  | [u0, u1], _ =>
    have hs : xs.length = 2 := by rw [hxs]; rfl
    match xs, hs with
    | [x0, x1], _ =>
      have h0 := hf 0 _ rfl
      have h1 := hf 1 _ rfl
      have c0 : Tryz.prog.cellsOf 9 = 1 := by kernel_rfl
      simp only [List.getElem_toArray, List.getElem_cons_zero, List.getElem_cons_succ, c0] at h0 h1
      obtain ⟨a, e0, _, wa⟩ := DataW.trod_string Tryz.underlying9 h0
      obtain ⟨b, e1, _, wb⟩ := DataW.trod_string Tryz.underlying9 h1
      have f0 : u0 = .string a := by simpa using e0
      have f1 : u1 = .string b := by simpa using e1
      exact ⟨(a.data.toList, b.data.toList), by rw [f0, f1]; rfl, wa, wb⟩
end Go.Proofs.YtgoibhbmndpgpaaGreatDoor

/- Walks of package utf's small functions: holds, match, fit. -/
set_option maxRecDepth 100000
set_option linter.unusedVariables false
set_option linter.unusedSimpArgs false
namespace Go.Proofs.YtgoibhbmndpgpaaGreatDoor
open Go.RowKit

set_option maxHeartbeats 400000 in
theorem holds_calls (lo hi c : Int) (w : World) :
    Calls Tryz.prog 84 #[.agg #[.int .u8 lo, .int .u8 hi], .int .u8 c] w fun e w' => e = .returned (.bool (Utf.inR lo hi c)) ∧ Below w.heap.size w w' := by
  by_cases h1 : lo ≤ c
  · go_enter Tryz.func84, Tryz.ntmps84
    go_wp2
    go_ret
    exact ⟨by simp [Utf.inR, h1], (Below.refl _ _).alloc (Nat.le_refl _) _⟩
  · have h1' : decide (lo ≤ c) = false := by simpa using h1
    go_enter Tryz.func84, Tryz.ntmps84
    go_wp2
    go_ret
    exact ⟨by simp [Utf.inR, h1'], (Below.refl _ _).alloc (Nat.le_refl _) _⟩


theorem below_on {B : Nat} {w wr w' : World} (hb : Below B w wr) (hz : B ≤ wr.heap.size) (h2 : Below wr.drew.heap.size wr.drew w') : Below B w w' := hb.drew.trans (h2.mono hz)
theorem below_out {w w' : World} {o : Obj} (hb : Below (w.heap.size + 1) (w.alloc o) w') : Below w.heap.size w w' := ((Below.refl _ _).alloc (Nat.le_refl _) _).trans (hb.mono (by omega))

set_option maxHeartbeats 1000000 in
theorem match_calls (n l0 h0 l1 h1 l2 h2 l3 h3 : Int) (s : ByteArray) (w : World) (hn0 : 0 ≤ n) (hn4 : n ≤ 4) (hs : s.size ≤ maxLen) :
    Calls Tryz.prog 85 #[.agg #[.int .i64 n, .int .u8 l0, .int .u8 h0, .int .u8 l1, .int .u8 h1, .int .u8 l2, .int .u8 h2, .int .u8 l3, .int .u8 h3], .string s] w fun e w' =>
      e = .returned (.tuple #[.int .i64 (Utf.fits ([(l0, h0), (l1, h1), (l2, h2), (l3, h3)].take n.toNat) s.data.toList).1, .bool (Utf.fits ([(l0, h0), (l1, h1), (l2, h2), (l3, h3)].take n.toNat) s.data.toList).2]) ∧ Below w.heap.size w w' := by
  unfold maxLen at hs
  go_enter Tryz.func85, Tryz.ntmps85
  go_wp2_with fail
  go_loopw [6] (fun v wr => ∃ k : Nat, Utf.Upto ([(l0, h0), (l1, h1), (l2, h2), (l3, h3)].take n.toNat) s.data.toList k ∧ v = .int .i64 k ∧ Below (w.heap.size + 1) (w.alloc (.cells #[.int .i64 n, .int .u8 l0, .int .u8 h0, .int .u8 l1, .int .u8 h1, .int .u8 l2, .int .u8 h2, .int .u8 l3, .int .u8 h3] 105)) wr) (fun v _ => (4 - intOf v).toNat)
  case atStart => exact ⟨0, Utf.upto_zero _ _, rfl, Below.refl _ _⟩
  case round =>
    obtain ⟨k, hup, rfl, hb⟩ := hrel
    have hkn := hup.inB
    have hks := hup.inL
    simp only [List.length_take, List.length_cons, List.length_nil] at hkn
    have c0 : wr.cell? ⟨w.heap.size, 0, none⟩ = some (.int .i64 n) := by rw [hb.cell (by simp)]; simp
    have Hup := Lib.hid hup
    clear hup
    obtain ⟨ki, hki⟩ : ∃ ki : Int, (k : Int) = ki := ⟨_, rfl⟩
    rw [hki]
    by_cases hlt : ki < n
    · have hk4 : (k = 0 ∧ ki = 0) ∨ (k = 1 ∧ ki = 1) ∨ (k = 2 ∧ ki = 2) ∨ (k = 3 ∧ ki = 3) := by omega
      have tr : decide (ki < n) = true := by simpa using hlt
      have c1 : wr.cell? ⟨w.heap.size, 1, none⟩ = some (.int .u8 l0) := by rw [hb.cell (by simp)]; simp
      have c2 : wr.cell? ⟨w.heap.size, 2, none⟩ = some (.int .u8 h0) := by rw [hb.cell (by simp)]; simp
      have c3 : wr.cell? ⟨w.heap.size, 3, none⟩ = some (.int .u8 l1) := by rw [hb.cell (by simp)]; simp
      have c4 : wr.cell? ⟨w.heap.size, 4, none⟩ = some (.int .u8 h1) := by rw [hb.cell (by simp)]; simp
      have c5 : wr.cell? ⟨w.heap.size, 5, none⟩ = some (.int .u8 l2) := by rw [hb.cell (by simp)]; simp
      have c6 : wr.cell? ⟨w.heap.size, 6, none⟩ = some (.int .u8 h2) := by rw [hb.cell (by simp)]; simp
      have c7 : wr.cell? ⟨w.heap.size, 7, none⟩ = some (.int .u8 l3) := by rw [hb.cell (by simp)]; simp
      have c8 : wr.cell? ⟨w.heap.size, 8, none⟩ = some (.int .u8 h3) := by rw [hb.cell (by simp)]; simp
      have hz : w.heap.size + 1 ≤ wr.heap.size := by have := hb.size; simpa using this
      by_cases hl : k < s.size
      · have byk := Lib.hid (Utf.byte_at s k hl)
        rcases hk4 with ⟨rfl, rfl⟩ | ⟨rfl, rfl⟩ | ⟨rfl, rfl⟩ | ⟨rfl, rfl⟩
        · have g : ((0 : Int) == (s.size : Int)) = false := by rw [beq_eq_false_iff_ne]; omega
          have hl' : (0 : Int) < (s.size : Int) := by omega
          have hkn' : 0 < n.toNat := by omega
          cases hx : Utf.inR l0 h0 ((s[0]'hl).toNat : Int)
          · go_wp2_with fail
            go_still_tail 12, (by kernel_rfl)
            change wpList _ _ _ _ _ wr.drew
            go_wp2_with (go_at_call 84; refine (holds_calls _ _ _ _).mono ?_; rintro e w' ⟨rfl, hb2⟩)
            go_ret2
            exact ⟨by rw [Utf.upto_no Hup.out (List.getElem?_take_of_lt hkn') byk.out hx]; rfl, below_out (below_on hb hz hb2)⟩
          · go_wp2_with fail
            go_still_tail 12, (by kernel_rfl)
            change wpList _ _ _ _ _ wr.drew
            go_wp2_with (go_at_call 84; refine (holds_calls _ _ _ _).mono ?_; rintro e w' ⟨rfl, hb2⟩)
            go_roundw
            case rel => exact ⟨0 + 1, Utf.upto_yes Hup.out (List.getElem?_take_of_lt hkn') byk.out hx, rfl, below_on hb hz hb2⟩
            case measure => simp [intOf]
        · have g : ((1 : Int) == (s.size : Int)) = false := by rw [beq_eq_false_iff_ne]; omega
          have hl' : (1 : Int) < (s.size : Int) := by omega
          have hkn' : 1 < n.toNat := by omega
          cases hx : Utf.inR l1 h1 ((s[1]'hl).toNat : Int)
          · go_wp2_with fail
            go_still_tail 12, (by kernel_rfl)
            change wpList _ _ _ _ _ wr.drew
            go_wp2_with (go_at_call 84; refine (holds_calls _ _ _ _).mono ?_; rintro e w' ⟨rfl, hb2⟩)
            go_ret2
            exact ⟨by rw [Utf.upto_no Hup.out (List.getElem?_take_of_lt hkn') byk.out hx]; rfl, below_out (below_on hb hz hb2)⟩
          · go_wp2_with fail
            go_still_tail 12, (by kernel_rfl)
            change wpList _ _ _ _ _ wr.drew
            go_wp2_with (go_at_call 84; refine (holds_calls _ _ _ _).mono ?_; rintro e w' ⟨rfl, hb2⟩)
            go_roundw
            case rel => exact ⟨1 + 1, Utf.upto_yes Hup.out (List.getElem?_take_of_lt hkn') byk.out hx, rfl, below_on hb hz hb2⟩
            case measure => simp [intOf]
        · have g : ((2 : Int) == (s.size : Int)) = false := by rw [beq_eq_false_iff_ne]; omega
          have hl' : (2 : Int) < (s.size : Int) := by omega
          have hkn' : 2 < n.toNat := by omega
          cases hx : Utf.inR l2 h2 ((s[2]'hl).toNat : Int)
          · go_wp2_with fail
            go_still_tail 12, (by kernel_rfl)
            change wpList _ _ _ _ _ wr.drew
            go_wp2_with (go_at_call 84; refine (holds_calls _ _ _ _).mono ?_; rintro e w' ⟨rfl, hb2⟩)
            go_ret2
            exact ⟨by rw [Utf.upto_no Hup.out (List.getElem?_take_of_lt hkn') byk.out hx]; rfl, below_out (below_on hb hz hb2)⟩
          · go_wp2_with fail
            go_still_tail 12, (by kernel_rfl)
            change wpList _ _ _ _ _ wr.drew
            go_wp2_with (go_at_call 84; refine (holds_calls _ _ _ _).mono ?_; rintro e w' ⟨rfl, hb2⟩)
            go_roundw
            case rel => exact ⟨2 + 1, Utf.upto_yes Hup.out (List.getElem?_take_of_lt hkn') byk.out hx, rfl, below_on hb hz hb2⟩
            case measure => simp [intOf]
        · have g : ((3 : Int) == (s.size : Int)) = false := by rw [beq_eq_false_iff_ne]; omega
          have hl' : (3 : Int) < (s.size : Int) := by omega
          have hkn' : 3 < n.toNat := by omega
          cases hx : Utf.inR l3 h3 ((s[3]'hl).toNat : Int)
          · go_wp2_with fail
            go_still_tail 12, (by kernel_rfl)
            change wpList _ _ _ _ _ wr.drew
            go_wp2_with (go_at_call 84; refine (holds_calls _ _ _ _).mono ?_; rintro e w' ⟨rfl, hb2⟩)
            go_ret2
            exact ⟨by rw [Utf.upto_no Hup.out (List.getElem?_take_of_lt hkn') byk.out hx]; rfl, below_out (below_on hb hz hb2)⟩
          · go_wp2_with fail
            go_still_tail 12, (by kernel_rfl)
            change wpList _ _ _ _ _ wr.drew
            go_wp2_with (go_at_call 84; refine (holds_calls _ _ _ _).mono ?_; rintro e w' ⟨rfl, hb2⟩)
            go_roundw
            case rel => exact ⟨3 + 1, Utf.upto_yes Hup.out (List.getElem?_take_of_lt hkn') byk.out hx, rfl, below_on hb hz hb2⟩
            case measure => simp [intOf]
      · have hsl := Utf.size_len s
        have hl' : (s.size : Int) = ki := by omega
        have g : (ki == (s.size : Int)) = true := by rw [beq_iff_eq]; omega
        have hlen : s.data.toList.length ≤ k := by rw [Utf.size_len]; omega
        have Hl := Lib.hid hl'
        have Hk := Lib.hid hki
        clear hl' hsl hki
        go_wp2_with fail
        go_quiet (fail)
        go_wp2
        go_ret2
        exact ⟨by rw [Utf.upto_out Hup.out (by simp; omega) hlen, Hk.out]; rfl, below_out (below_drewN hb nq)⟩
    · have fa : decide (ki < n) = false := by simpa using hlt
      have hkn2 : (k : Int) = n := by omega
      have Hk := Lib.hid hkn2
      clear hkn2
      go_wp2
      go_ret2
      exact ⟨by rw [Utf.upto_end Hup.out (by simp; omega), Hk.out]; rfl, below_out hb⟩

end Go.Proofs.YtgoibhbmndpgpaaGreatDoor

/- The walk of package utf's 'fit'. -/
set_option maxRecDepth 100000
set_option linter.unusedVariables false
set_option linter.unusedSimpArgs false
namespace Go.Proofs.YtgoibhbmndpgpaaGreatDoor
open Go.RowKit

/-- what the table of shapes holds -/
def shapeCells : Array Value := #[.int .i64 1, .int .u8 0, .int .u8 127, .int .u8 0, .int .u8 0, .int .u8 0, .int .u8 0, .int .u8 0, .int .u8 0,
  .int .i64 2, .int .u8 194, .int .u8 223, .int .u8 128, .int .u8 191, .int .u8 0, .int .u8 0, .int .u8 0, .int .u8 0,
  .int .i64 3, .int .u8 224, .int .u8 224, .int .u8 160, .int .u8 191, .int .u8 128, .int .u8 191, .int .u8 0, .int .u8 0,
  .int .i64 3, .int .u8 225, .int .u8 236, .int .u8 128, .int .u8 191, .int .u8 128, .int .u8 191, .int .u8 0, .int .u8 0,
  .int .i64 3, .int .u8 237, .int .u8 237, .int .u8 128, .int .u8 159, .int .u8 128, .int .u8 191, .int .u8 0, .int .u8 0,
  .int .i64 3, .int .u8 238, .int .u8 239, .int .u8 128, .int .u8 191, .int .u8 128, .int .u8 191, .int .u8 0, .int .u8 0,
  .int .i64 4, .int .u8 240, .int .u8 240, .int .u8 144, .int .u8 191, .int .u8 128, .int .u8 191, .int .u8 128, .int .u8 191,
  .int .i64 4, .int .u8 241, .int .u8 243, .int .u8 128, .int .u8 191, .int .u8 128, .int .u8 191, .int .u8 128, .int .u8 191,
  .int .i64 4, .int .u8 244, .int .u8 244, .int .u8 128, .int .u8 143, .int .u8 128, .int .u8 191, .int .u8 128, .int .u8 191]
def ShapesIn (w : World) : Prop := ∃ t fr, w.heap[1]? = some (.cells shapeCells t fr)
theorem ShapesIn.below {w w' : World} {B : Nat} (h : ShapesIn w) (hb : Below B w w') (hB : 1 < B) : ShapesIn w' := by
  obtain ⟨t, fr, h⟩ := h
  exact ⟨t, fr, by rw [hb.block _ hB]; exact h⟩
theorem ShapesIn.room {w : World} (h : ShapesIn w) : 1 < w.heap.size := by
  obtain ⟨t, fr, h⟩ := h
  exact (Array.getElem?_eq_some_iff.1 h).1

theorem shape_at (k : Nat) (hk : k < 9) : ∃ n l0 h0 l1 h1 l2 h2 l3 h3 : Int, 1 ≤ n ∧ n ≤ 4 ∧ Utf.shapes[k]? = some ([(l0, h0), (l1, h1), (l2, h2), (l3, h3)].take n.toNat) ∧
    ∀ w : World, (Instr.index 106 (.agg shapeCells) (.int .i64 k)).run Tryz.prog w = .ok (.agg #[.int .i64 n, .int .u8 l0, .int .u8 h0, .int .u8 l1, .int .u8 h1, .int .u8 l2, .int .u8 h2, .int .u8 l3, .int .u8 h3]) w := by
  match k, hk with
  | 0, _ => exact ⟨1, 0, 127, 0, 0, 0, 0, 0, 0, by omega, by omega, rfl, fun _ => by kernel_rfl⟩
  | 1, _ => exact ⟨2, 194, 223, 128, 191, 0, 0, 0, 0, by omega, by omega, rfl, fun _ => by kernel_rfl⟩
  | 2, _ => exact ⟨3, 224, 224, 160, 191, 128, 191, 0, 0, by omega, by omega, rfl, fun _ => by kernel_rfl⟩
  | 3, _ => exact ⟨3, 225, 236, 128, 191, 128, 191, 0, 0, by omega, by omega, rfl, fun _ => by kernel_rfl⟩
  | 4, _ => exact ⟨3, 237, 237, 128, 159, 128, 191, 0, 0, by omega, by omega, rfl, fun _ => by kernel_rfl⟩
  | 5, _ => exact ⟨3, 238, 239, 128, 191, 128, 191, 0, 0, by omega, by omega, rfl, fun _ => by kernel_rfl⟩
  | 6, _ => exact ⟨4, 240, 240, 144, 191, 128, 191, 128, 191, by omega, by omega, rfl, fun _ => by kernel_rfl⟩
  | 7, _ => exact ⟨4, 241, 243, 128, 191, 128, 191, 128, 191, by omega, by omega, rfl, fun _ => by kernel_rfl⟩
  | 8, _ => exact ⟨4, 244, 244, 128, 143, 128, 191, 128, 191, by omega, by omega, rfl, fun _ => by kernel_rfl⟩

set_option maxHeartbeats 1000000 in
theorem fit_calls (s : ByteArray) (at' : Nat) (w : World) (hat : at' < s.size) (hs : s.size ≤ maxLen) (hT : ShapesIn w) :
    Calls Tryz.prog 58 #[.string s, .int .i64 at'] w fun e w' =>
      e = .returned (.tuple #[.int .i64 (Utf.front (s.data.toList.drop at')).1, .bool (Utf.front (s.data.toList.drop at')).2]) ∧ Below w.heap.size w w' := by
  have hs' := hs
  unfold maxLen at hs'
  obtain ⟨tt, fr, hsh⟩ := hT
  have hsz : 1 < w.heap.size := (Array.getElem?_eq_some_iff.1 hsh).1
  go_enter Tryz.func58, Tryz.ntmps58
  go_wp2_with (refine wpList_load_row rfl 106 _ rfl 1 rfl tt shapeCells fr _ hsh Tryz.underlying106 rfl (by kernel_rfl) ?_)
  go_loopw [9] (fun v wr => ∃ k : Nat, k ≤ 9 ∧ Utf.shapes.find? (Utf.opens s[at']) = (Utf.shapes.drop k).find? (Utf.opens s[at']) ∧ v = .int .i64 k ∧ Below w.heap.size w wr) (fun v _ => (9 - intOf v).toNat)
  case atStart => exact ⟨0, by omega, rfl, rfl, Below.refl _ _⟩
  case round =>
    obtain ⟨k, hk, hfi, rfl, hb⟩ := hrel
    have Hfi := Lib.hid hfi
    clear hfi
    have Hby := Lib.hid (Utf.byte_at s at' hat)
    have hz : w.heap.size ≤ wr.heap.size := hb.size
    have hat' : (at' : Int) < (s.size : Int) := by omega
    have hsl : ∀ w : World, (Instr.slice 9 (.string s) (some (.int .i64 at')) none none).run Tryz.prog w = .ok (.string (s.extract at' s.size)) w := fun w => by
      rw [run_slice_string_from_if w _ s _ _ Tryz.underlying9, if_pos (by omega)]; simp
    by_cases hlt : k < 9
    · obtain ⟨n, l0, h0, l1, h1, l2, h2, l3, h3, hn1, hn4, hB, hidx⟩ := shape_at k hlt
      have HB := Lib.hid hB
      clear hB
      cases hx : Utf.inR l0 h0 (s[at'].toNat : Int)
      · go_wp2_with fail
        obtain ⟨W1, hW1⟩ : ∃ W1 : World, W1 = wr.alloc (.cells #[.int .i64 n, .int .u8 l0, .int .u8 h0, .int .u8 l1, .int .u8 h1, .int .u8 l2, .int .u8 h2, .int .u8 l3, .int .u8 h3] 105) := ⟨_, rfl⟩
        rw [← hW1]
        have c0 : W1.cell? ⟨wr.heap.size, 0, none⟩ = some (.int .i64 n) := by rw [hW1]; simp
        have c1 : W1.cell? ⟨wr.heap.size, 1, none⟩ = some (.int .u8 l0) := by rw [hW1]; simp
        have c2 : W1.cell? ⟨wr.heap.size, 2, none⟩ = some (.int .u8 h0) := by rw [hW1]; simp
        have c3 : W1.cell? ⟨wr.heap.size, 3, none⟩ = some (.int .u8 l1) := by rw [hW1]; simp
        have c4 : W1.cell? ⟨wr.heap.size, 4, none⟩ = some (.int .u8 h1) := by rw [hW1]; simp
        have c5 : W1.cell? ⟨wr.heap.size, 5, none⟩ = some (.int .u8 l2) := by rw [hW1]; simp
        have c6 : W1.cell? ⟨wr.heap.size, 6, none⟩ = some (.int .u8 h2) := by rw [hW1]; simp
        have c7 : W1.cell? ⟨wr.heap.size, 7, none⟩ = some (.int .u8 l3) := by rw [hW1]; simp
        have c8 : W1.cell? ⟨wr.heap.size, 8, none⟩ = some (.int .u8 h3) := by rw [hW1]; simp
        have hz1 : W1.heap.size = wr.heap.size + 1 := by rw [hW1]; simp
        have hb1 : Below w.heap.size w W1 := by rw [hW1]; exact hb.alloc hz _
        have Hz1 := Lib.hid hz1
        clear hW1 hz1
        go_still_tail 6, (by kernel_rfl)
        change wpList _ _ _ _ _ W1.drew
        go_wp2_with (go_at_call 84; refine (holds_calls _ _ _ _).mono ?_; rintro e w' ⟨rfl, hb2⟩)
        go_roundw
        case rel => exact ⟨k + 1, by omega, Utf.find_no Hfi.out HB.out (by rw [Utf.take_opens _ _ (by omega)]; exact hx), by go_num, hb1.drew.trans (hb2.mono (by have := Hz1.out; simp; omega))⟩
        case measure => simp [intOf]; omega
      · go_wp2_with fail
        obtain ⟨W1, hW1⟩ : ∃ W1 : World, W1 = wr.alloc (.cells #[.int .i64 n, .int .u8 l0, .int .u8 h0, .int .u8 l1, .int .u8 h1, .int .u8 l2, .int .u8 h2, .int .u8 l3, .int .u8 h3] 105) := ⟨_, rfl⟩
        rw [← hW1]
        have c0 : W1.cell? ⟨wr.heap.size, 0, none⟩ = some (.int .i64 n) := by rw [hW1]; simp
        have c1 : W1.cell? ⟨wr.heap.size, 1, none⟩ = some (.int .u8 l0) := by rw [hW1]; simp
        have c2 : W1.cell? ⟨wr.heap.size, 2, none⟩ = some (.int .u8 h0) := by rw [hW1]; simp
        have c3 : W1.cell? ⟨wr.heap.size, 3, none⟩ = some (.int .u8 l1) := by rw [hW1]; simp
        have c4 : W1.cell? ⟨wr.heap.size, 4, none⟩ = some (.int .u8 h1) := by rw [hW1]; simp
        have c5 : W1.cell? ⟨wr.heap.size, 5, none⟩ = some (.int .u8 l2) := by rw [hW1]; simp
        have c6 : W1.cell? ⟨wr.heap.size, 6, none⟩ = some (.int .u8 h2) := by rw [hW1]; simp
        have c7 : W1.cell? ⟨wr.heap.size, 7, none⟩ = some (.int .u8 l3) := by rw [hW1]; simp
        have c8 : W1.cell? ⟨wr.heap.size, 8, none⟩ = some (.int .u8 h3) := by rw [hW1]; simp
        have hz1 : W1.heap.size = wr.heap.size + 1 := by rw [hW1]; simp
        have hb1 : Below w.heap.size w W1 := by rw [hW1]; exact hb.alloc hz _
        have Hz1 := Lib.hid hz1
        clear hW1 hz1
        go_still_tail 6, (by kernel_rfl)
        change wpList _ _ _ _ _ W1.drew
        go_wp2_with (go_at_call 84; refine (holds_calls _ _ _ _).mono ?_; rintro e w' ⟨rfl, hb2⟩)
        have hz2 : wr.heap.size < W1.drew.heap.size := by have := Hz1.out; simp; omega
        have d0 : w'.cell? ⟨wr.heap.size, 0, none⟩ = some (.int .i64 n) := by rw [hb2.cell hz2]; exact c0
        have d1 : w'.cell? ⟨wr.heap.size, 1, none⟩ = some (.int .u8 l0) := by rw [hb2.cell hz2]; exact c1
        have d2 : w'.cell? ⟨wr.heap.size, 2, none⟩ = some (.int .u8 h0) := by rw [hb2.cell hz2]; exact c2
        have d3 : w'.cell? ⟨wr.heap.size, 3, none⟩ = some (.int .u8 l1) := by rw [hb2.cell hz2]; exact c3
        have d4 : w'.cell? ⟨wr.heap.size, 4, none⟩ = some (.int .u8 h1) := by rw [hb2.cell hz2]; exact c4
        have d5 : w'.cell? ⟨wr.heap.size, 5, none⟩ = some (.int .u8 l2) := by rw [hb2.cell hz2]; exact c5
        have d6 : w'.cell? ⟨wr.heap.size, 6, none⟩ = some (.int .u8 h2) := by rw [hb2.cell hz2]; exact c6
        have d7 : w'.cell? ⟨wr.heap.size, 7, none⟩ = some (.int .u8 l3) := by rw [hb2.cell hz2]; exact c7
        have d8 : w'.cell? ⟨wr.heap.size, 8, none⟩ = some (.int .u8 h3) := by rw [hb2.cell hz2]; exact c8
        have hz3 : w.heap.size ≤ w'.heap.size := by have := hb2.size; omega
        have hz4 : wr.heap.size < w'.heap.size := by have := hb2.size; omega
        have hb3 : Below w.heap.size w w' := hb1.drew.trans (hb2.mono (by omega))
        have Hl := Lib.hid (show List.take (s.size - at') (s.data.toList.drop at') = s.data.toList.drop at' from List.take_of_length_le (by simp))
        have Hfit := Lib.hid (Utf.front_some Hby.out (Utf.find_yes Hfi.out HB.out (by rw [Utf.take_opens _ _ (by omega)]; exact hx)))
        go_region_held3 (fun x => x.cell? ⟨wr.heap.size, 0, none⟩ = some (.int .i64 n) ∧ x.cell? ⟨wr.heap.size, 1, none⟩ = some (.int .u8 l0) ∧ x.cell? ⟨wr.heap.size, 2, none⟩ = some (.int .u8 h0) ∧ x.cell? ⟨wr.heap.size, 3, none⟩ = some (.int .u8 l1) ∧ x.cell? ⟨wr.heap.size, 4, none⟩ = some (.int .u8 h1) ∧ x.cell? ⟨wr.heap.size, 5, none⟩ = some (.int .u8 l2) ∧ x.cell? ⟨wr.heap.size, 6, none⟩ = some (.int .u8 h2) ∧ x.cell? ⟨wr.heap.size, 7, none⟩ = some (.int .u8 l3) ∧ x.cell? ⟨wr.heap.size, 8, none⟩ = some (.int .u8 h3)) (first | exact ⟨d0, d1, d2, d3, d4, d5, d6, d7, d8⟩ | exact ⟨(hb4.cell hz4).trans d0, (hb4.cell hz4).trans d1, (hb4.cell hz4).trans d2, (hb4.cell hz4).trans d3, (hb4.cell hz4).trans d4, (hb4.cell hz4).trans d5, (hb4.cell hz4).trans d6, (hb4.cell hz4).trans d7, (hb4.cell hz4).trans d8⟩ | go_keep)
          ((first | (go_at_call 85; refine (match_calls _ _ _ _ _ _ _ _ _ _ _ (by omega) hn4 (by simp; omega)).mono ?_; rintro e w2 ⟨rfl, hb4⟩)))
        go_wp2
        go_ret2
        exact ⟨by rw [Hfit.out, Hl.out]; rfl, hb3.drew.trans (hb4.mono hz3)⟩
    · go_wp2
      go_ret2
      exact ⟨by rw [Utf.front_none Hby.out (by rw [Hfi.out, List.drop_of_length_le (by simp [Utf.shapes]; omega)]; rfl)]; rfl, hb⟩

end Go.Proofs.YtgoibhbmndpgpaaGreatDoor

/- The walk of package utf's Bad. -/
set_option maxRecDepth 100000
set_option linter.unusedVariables false
set_option linter.unusedSimpArgs false
namespace Go.Proofs.YtgoibhbmndpgpaaGreatDoor
open Go.RowKit

set_option maxHeartbeats 1000000 in
theorem bad_calls (s : ByteArray) (w : World) (hs : s.size ≤ maxLen) (hT : ShapesIn w) :
    Calls Tryz.prog 40 #[.string s] w fun e w' => e = .returned (.int .i64 (Utf.bad s.data.toList)) ∧ Below w.heap.size w w' := by
  have hs' := hs
  unfold maxLen at hs'
  have hroom := hT.room
  go_enter Tryz.func40, Tryz.ntmps40
  go_wp2_with fail
  go_loopw [3] (fun v wr => ∃ k n : Nat, Utf.Far s.data.toList k n ∧ v = .int .i64 k ∧ Below w.heap.size w wr) (fun v _ => s.size - (intOf v).toNat)
  case atStart => exact ⟨0, 0, Utf.far_zero _, rfl, Below.refl _ _⟩
  case round =>
    obtain ⟨k, n, hf, rfl, hb⟩ := hrel
    have hsl := Utf.size_len s
    have Hf := Lib.hid hf
    have hin := hf.inL
    rw [hsl] at hin
    have hTr := hT.below hb hroom
    have hz : w.heap.size ≤ wr.heap.size := hb.size
    clear hf
    by_cases h1 : k < s.size
    · have h1' : k < s.data.toList.length := by omega
      have hle := (Utf.front_le (s.data.toList.drop k)).1
      rw [List.length_drop, hsl] at hle
      have fc := fit_calls s k wr h1 hs hTr
      cases hw : (Utf.front (s.data.toList.drop k)).2
      · rw [hw] at fc
        have Hb := Lib.hid (Utf.far_no Hf.out h1' hw)
        obtain ⟨m, hm⟩ : ∃ m, (Utf.front (s.data.toList.drop k)).1 = m := ⟨_, rfl⟩
        rw [hm] at fc hle
        have Hm := Lib.hid hm
        have Fc := Lib.hid fc
        clear fc hw hsl hm hTr
        go_wp2_with (go_at_call 58; refine Fc.out.mono ?_; rintro e w1 ⟨rfl, hb1⟩)
        go_ret
        exact ⟨by rw [Hb.out.1, Hm.out]; rfl, hb.trans (hb1.mono hz)⟩
      · rw [hw] at fc
        have Hy := Lib.hid (Utf.far_yes Hf.out h1' hw)
        have hwp := Utf.front_whole hw
        obtain ⟨m, hm⟩ : ∃ m, (Utf.front (s.data.toList.drop k)).1 = m := ⟨_, rfl⟩
        rw [hm] at fc hle hwp
        have Hm := Lib.hid hm
        have Fc := Lib.hid fc
        clear fc hw hsl hm hTr
        go_wp2_with (go_at_call 58; refine Fc.out.mono ?_; rintro e w1 ⟨rfl, hb1⟩)
        go_roundw
        case rel => exact ⟨k + m, n + 1, by have := Hy.out; rw [Hm.out] at this; exact this, by go_num, hb.trans (hb1.mono hz)⟩
        case measure => simp [intOf]; omega
    · have Hb := Lib.hid (Utf.far_end Hf.out (by omega))
      clear hsl hTr
      go_wp2
      go_ret
      exact ⟨by rw [Hb.out.1]; rfl, hb⟩

end Go.Proofs.YtgoibhbmndpgpaaGreatDoor

/- The walks of strings.Compare, byName, hasControl, Name, Value. -/
set_option maxRecDepth 100000
set_option linter.unusedVariables false
set_option linter.unusedSimpArgs false
namespace Go.Proofs.YtgoibhbmndpgpaaGreatDoor
open Go.RowKit Go.Sort

set_option maxHeartbeats 1000000 in
theorem cmpstr_calls (a b : List UInt8) (w : World) :
    Calls Tryz.prog 94 #[.string (str a), .string (str b)] w fun e w' => e = .returned (.int .i64 (cb a b)) ∧ w' = w := by
  go_enter Tryz.func94, Tryz.ntmps94
  go_wp2
  rw [run_callFunc_extern Tryz.func116 (by kernel_rfl) (by kernel_rfl) (by kernel_rfl) (e := Extern.BytealgCompare.compare) (by kernel_rfl), Lib.run_compareString]
  simp only [Result.andThen]
  rw [Oper.upon_value]
  go_wp2
  go_ret
  exact ⟨rfl, rfl⟩
set_option maxHeartbeats 1000000 in
theorem strcmp_calls (a b : List UInt8) (w : World) :
    Calls Tryz.prog 74 #[.string (str a), .string (str b)] w fun e w' => e = .returned (.int .i64 (cb a b)) ∧ w' = w := by
  go_enter Tryz.func74, Tryz.ntmps74
  go_wp2_with (go_at_call 94; refine (cmpstr_calls _ _ _).mono ?_; rintro e w' ⟨rfl, rfl⟩)
  go_ret
  exact ⟨rfl, rfl⟩
/-- a label as a value -/
abbrev lv (x : Lb) : Value := .agg #[.string (str x.1), .string (str x.2)]
set_option maxHeartbeats 1000000 in
theorem byname_grow (x y : Lb) (w : World) :
    Calls Tryz.prog 119 #[lv x, lv y] w fun e w' => e = .returned (.int .i64 (cb x.1 y.1)) ∧ ∃ q os', w' = grow (w.drewN q) os' := by
  have hc := fun W => strcmp_calls x.1 y.1 W
  generalize cb x.1 y.1 = r at *
  go_enter Tryz.func119, Tryz.ntmps119
  go_wp2_with (go_at_call 74; refine (hc _).mono ?_; rintro e w' ⟨rfl, rfl⟩)
  go_ret
  exact ⟨rfl, 0, _, by rw [alloc_eq_grow, alloc_eq_grow, grow_grow]; rfl⟩
theorem below_grow {B : Nat} {a w : World} (h : Below B a w) (hB : B ≤ a.heap.size) (os : Array Obj) : Below B a (grow w os) := by
  refine ⟨h.os, h.tape, h.output, ?_, fun b hb => ?_⟩
  · have := h.size; unfold grow; simp; omega
  · have := h.size
    rw [← h.block b hb]; unfold grow; simp only; rw [Array.getElem?_append_left (by omega)]
theorem byname_calls (x y : Lb) (w : World) :
    Calls Tryz.prog 119 #[lv x, lv y] w fun e w' => e = .returned (.int .i64 (cb x.1 y.1)) ∧ Below w.heap.size w w' := by
  refine (byname_grow x y w).mono ?_
  rintro e w' ⟨rfl, q, os, rfl⟩
  exact ⟨rfl, below_grow (below_drewN (Below.refl _ _) q) (Nat.le_refl _) os⟩

theorem ctl_take (l : List UInt8) (k : Nat) (h : k < (str l).size) (h0 : ctl (l.take k) = false) :
    ctl (l.take (k + 1)) = (decide (((str l)[k].toNat : Int) < 32) || decide (((str l)[k].toNat : Int) = 127)) := by
  have hl : k < l.length := by rw [str_size] at h; exact h
  unfold ctl at h0 ⊢
  rw [List.take_succ_eq_append_getElem hl, List.any_append, h0, str_at l k h]
  simp only [List.any_cons, List.any_nil, Bool.or_false, Bool.false_or]
  congr 1
  · rw [decide_eq_decide, UInt8.lt_iff_toNat_lt]; simp; omega
  · rw [decide_eq_decide]
    constructor
    · intro e; rw [e]; rfl
    · intro e; apply UInt8.toNat_inj.1; simp; omega
theorem ctl_some {l : List UInt8} {k : Nat} (h : ctl (l.take k) = true) : ctl l = true := by
  unfold ctl at h ⊢
  rw [List.any_eq_true] at h ⊢
  obtain ⟨c, hc, h⟩ := h
  exact ⟨c, List.mem_of_mem_take hc, h⟩
set_option maxHeartbeats 2000000 in
theorem control_calls (l : List UInt8) (w : World) (hl : l.length ≤ maxLen) :
    Calls Tryz.prog 91 #[.string (str l)] w fun e w' => e = .returned (.bool (ctl l)) ∧ w = w' := by
  unfold maxLen at hl
  have hsz := str_size l
  go_enter Tryz.func91, Tryz.ntmps91
  go_wp2_with fail
  go_loop [6] (fun v => ∃ k : Nat, k ≤ l.length ∧ v = .int .i64 (k : Nat) ∧ Hid (ctl (l.take k) = false)) (fun v => l.length - (intOf v).toNat)
  case atStart => exact ⟨0, Nat.zero_le _, rfl, rfl⟩
  case round =>
    obtain ⟨k, hk, rfl, H⟩ := hrel
    by_cases h : k < l.length
    · have hin : k < (str l).size := by rw [hsz]; exact h
      have ht := Lib.hid (ctl_take l k hin H.out)
      by_cases h1 : ((str l)[k].toNat : Int) < 32
      · have d1 : decide (((str l)[k].toNat : Int) < 32) = true := decide_eq_true h1
        have hr := Lib.hid (ctl_some (l := l) (k := k + 1) (by rw [ht.out, d1]; rfl))
        go_wp2
        go_ret
        exact ⟨by rw [hr.out]; rfl, rfl⟩
      · have d1 : decide (((str l)[k].toNat : Int) < 32) = false := decide_eq_false h1
        by_cases h2 : ((str l)[k].toNat : Int) = 127
        · have d2 : decide (((str l)[k].toNat : Int) = 127) = true := decide_eq_true h2
          have hr := Lib.hid (ctl_some (l := l) (k := k + 1) (by rw [ht.out, d2]; simp))
          go_wp2
          go_ret
          exact ⟨by rw [hr.out]; rfl, rfl⟩
        · have d2 : decide (((str l)[k].toNat : Int) = 127) = false := decide_eq_false h2
          have hn := Lib.hid (show ctl (l.take (k + 1)) = false by rw [ht.out, d1, d2]; rfl)
          go_wp2
          go_round
          case rel => exact ⟨k + 1, h, by go_num, hn.out⟩
          case measure => simp [intOf]; omega
    · have hr := Lib.hid (show ctl l = false by have := H.out; rwa [List.take_of_length_le (by omega)] at this)
      go_wp2
      go_ret
      exact ⟨by rw [hr.out]; rfl, rfl⟩
set_option maxHeartbeats 2000000 in
theorem name_calls (l : List UInt8) (w : World) (hl : l.length ≤ maxLen) (hT : ShapesIn w) :
    Calls Tryz.prog 70 #[.string (str l)] w fun e w' => e = .returned (.bool (nameOk l)) ∧ Below w.heap.size w w' := by
  have hsz := str_size l
  have hb := Lib.hid (bad_calls (str l) w (by rw [hsz]; exact hl) hT)
  have hc := Lib.hid (fun W => control_calls l W hl)
  unfold maxLen at hl
  by_cases h1 : 1 ≤ l.length
  · have d1 : decide ((1 : Int) ≤ (l.length : Int)) = true := by simp; omega
    by_cases h2 : l.length ≤ 60
    · have d2 : decide ((l.length : Int) ≤ 60) = true := by simp; omega
      by_cases h3 : Utf.bad l < 0
      · have e : nameOk l = !ctl l := by unfold nameOk; rw [decide_eq_true h1, decide_eq_true h2, decide_eq_true h3]; rfl
        have d3 : decide (Utf.bad l < 0) = true := decide_eq_true h3
        rw [e]
        generalize Utf.bad l = B at *
        generalize ctl l = C at *
        have E := Lib.hid e
        clear e
        go_enter Tryz.func70, Tryz.ntmps70
        go_wp2_with fail
        refine hb.out.mono ?_; rintro e w1 ⟨rfl, b1⟩
        go_wp2_with fail
        refine (hc.out _).mono ?_; rintro e w2 ⟨rfl, rfl⟩
        go_wp2
        go_ret
        exact ⟨rfl, b1⟩
      · have e : nameOk l = false := by unfold nameOk; rw [decide_eq_false h3]; simp
        have d3 : decide (Utf.bad l < 0) = false := decide_eq_false h3
        rw [e]; clear e
        generalize Utf.bad l = B at *
        go_enter Tryz.func70, Tryz.ntmps70
        go_wp2_with fail
        refine hb.out.mono ?_; rintro e w1 ⟨rfl, b1⟩
        go_wp2
        go_ret
        exact ⟨rfl, b1⟩
    · have d2 : decide ((l.length : Int) ≤ 60) = false := by simp; omega
      have e : nameOk l = false := by unfold nameOk; rw [decide_eq_false h2]; simp
      rw [e]; clear e
      go_enter Tryz.func70, Tryz.ntmps70
      go_wp2
      go_ret
      exact ⟨rfl, Below.refl _ _⟩
  · have d1 : decide ((1 : Int) ≤ (l.length : Int)) = false := by simp; omega
    have e : nameOk l = false := by unfold nameOk; rw [decide_eq_false h1]; simp
    rw [e]; clear e
    go_enter Tryz.func70, Tryz.ntmps70
    go_wp2
    go_ret
    exact ⟨rfl, Below.refl _ _⟩
set_option maxHeartbeats 2000000 in
theorem value_calls (l : List UInt8) (w : World) (hl : l.length ≤ maxLen) (hT : ShapesIn w) :
    Calls Tryz.prog 21 #[.string (str l)] w fun e w' => e = .returned (.bool (valueOk l)) ∧ Below w.heap.size w w' := by
  have hsz := str_size l
  have hb := Lib.hid (bad_calls (str l) w (by rw [hsz]; exact hl) hT)
  unfold maxLen at hl
  by_cases h2 : l.length ≤ 60
  · have d2 : decide ((l.length : Int) ≤ 60) = true := by simp; omega
    have e : valueOk l = decide (Utf.bad l < 0) := by unfold valueOk; rw [decide_eq_true h2]; rfl
    rw [e]; clear e
    generalize Utf.bad l = B at *
    go_enter Tryz.func21, Tryz.ntmps21
    go_wp2_with fail
    refine hb.out.mono ?_; rintro e w1 ⟨rfl, b1⟩
    go_wp2
    go_ret
    exact ⟨rfl, b1⟩
  · have d2 : decide ((l.length : Int) ≤ 60) = false := by simp; omega
    have e : valueOk l = false := by unfold valueOk; rw [decide_eq_false h2]; simp
    rw [e]; clear e
    go_enter Tryz.func21, Tryz.ntmps21
    go_wp2
    go_ret
    exact ⟨rfl, Below.refl _ _⟩

end Go.Proofs.YtgoibhbmndpgpaaGreatDoor

/- The walks of cmp.Or at two numbers, byNameAndValue. -/
set_option maxRecDepth 100000
set_option linter.unusedVariables false
set_option linter.unusedSimpArgs false
namespace Go.Proofs.YtgoibhbmndpgpaaGreatDoor
open Go.RowKit Go.Sort
attribute [local go_sem ↓] Go.wp_at_zero Go.wp_at_succ

/-- the first that is not 0 -/
def orI (x y : Int) : Int := if x = 0 then y else x
theorem orI_no {x y : Int} (h : x ≠ 0) : orI x y = x := if_neg h
theorem orI_yes {x y : Int} (h : x = 0) : orI x y = y := if_pos h
set_option maxHeartbeats 2000000 in
theorem or_calls (b : Nat) (x y : Int) (w : World) (hb : b < w.heap.size) (h0 : w.cell? ⟨b, 0, none⟩ = some (.int .i64 x)) (h1 : w.cell? ⟨b, 1, none⟩ = some (.int .i64 y)) :
    Calls Tryz.prog 111 #[.slice (some ⟨b, 0, none⟩) 2 2] w fun e w' => e = .returned (.int .i64 (orI x y)) ∧ w = w' := by
  go_enter Tryz.func111, Tryz.ntmps111
  go_wp2_with fail
  go_loop [8] (fun v => ∃ k : Nat, k ≤ 2 ∧ v = .int .i64 (k : Nat) ∧ Hid (1 ≤ k → x = 0) ∧ Hid (2 ≤ k → y = 0)) (fun v => 2 - (intOf v).toNat)
  case atStart => exact ⟨0, by omega, rfl, fun h => absurd h (by omega), fun h => absurd h (by omega)⟩
  case round =>
    obtain ⟨k, hk, rfl, H1, H2⟩ := hrel
    rcases (by omega : k = 0 ∨ k = 1 ∨ k = 2) with rfl | rfl | rfl
    · by_cases hx : x = 0
      · have dx : (x == 0) = true := by simpa using hx
        rw [show ((0 : Nat) : Int) = 0 from rfl]
        go_wp2
        go_round
        case rel => exact ⟨1, by omega, by go_num, fun _ => hx, fun h => absurd h (by omega)⟩
        case measure => simp [intOf]
      · have dx : (x == 0) = false := by simpa using hx
        have hr := Lib.hid (orI_no (y := y) hx)
        rw [show ((0 : Nat) : Int) = 0 from rfl]
        go_wp2
        go_ret
        exact ⟨by rw [hr.out]; rfl, rfl⟩
    · by_cases hy : y = 0
      · have dy : (y == 0) = true := by simpa using hy
        rw [show ((1 : Nat) : Int) = 1 from rfl]
        go_wp2
        go_round
        case rel => exact ⟨2, by omega, by go_num, fun _ => H1.out (by omega), fun _ => hy⟩
        case measure => simp [intOf]
      · have dy : (y == 0) = false := by simpa using hy
        have hr := Lib.hid (orI_yes (y := y) (H1.out (by omega)))
        rw [show ((1 : Nat) : Int) = 1 from rfl]
        go_wp2
        go_ret
        exact ⟨by rw [hr.out]; rfl, rfl⟩
    · have hr := Lib.hid (show orI x y = 0 by rw [orI_yes (H1.out (by omega)), H2.out (by omega)])
      rw [show ((2 : Nat) : Int) = 2 from rfl]
      go_wp2
      go_ret
      exact ⟨by rw [hr.out]; rfl, rfl⟩

theorem lbc_or (x y : Lb) : lbc x y = orI (cb x.1 y.1) (cb x.2 y.2) := rfl
set_option maxHeartbeats 4000000 in
theorem bynv_calls (x y : Lb) (w : World) :
    Calls Tryz.prog 124 #[lv x, lv y] w fun e w' => e = .returned (.int .i64 (lbc x y)) ∧ Below w.heap.size w w' := by
  have hn := Lib.hid (fun W => byname_calls x y W)
  have hv := Lib.hid (fun W => strcmp_calls x.2 y.2 W)
  rw [lbc_or]
  generalize cb x.1 y.1 = p at *
  generalize cb x.2 y.2 = q at *
  have ho := Lib.hid (fun b W h0 h1 h2 => or_calls b p q W h0 h1 h2)
  generalize orI p q = r at *
  have hB : Below w.heap.size w ((w.alloc (.cells #[.string (str x.1), .string (str x.2)] 48)).alloc (.cells #[.string (str y.1), .string (str y.2)] 48)) :=
    kp_alloc (kp_alloc (Below.refl _ _) _) _
  go_enter Tryz.func124, Tryz.ntmps124
  go_upto_region 1 with fail
  obtain ⟨W1, hW1⟩ : ∃ W1 : World, W1 = (w.alloc (.cells #[.string (str x.1), .string (str x.2)] 48)).alloc (.cells #[.string (str y.1), .string (str y.2)] 48) := ⟨_, rfl⟩
  have hz : W1.heap.size = w.heap.size + 2 := by rw [hW1]; simp
  have x0 : W1.cell? ⟨w.heap.size, 0, none⟩ = some (.string (str x.1)) := by rw [hW1]; simp
  have x1 : W1.cell? ⟨w.heap.size, 1, none⟩ = some (.string (str x.2)) := by rw [hW1]; simp
  have y0 : W1.cell? ⟨w.heap.size + 1, 0, none⟩ = some (.string (str y.1)) := by rw [hW1]; simp
  have y1 : W1.cell? ⟨w.heap.size + 1, 1, none⟩ = some (.string (str y.2)) := by rw [hW1]; simp
  rw [← hW1] at hB ⊢
  have l0 : w.heap.size < W1.heap.size := by omega
  have l1 : w.heap.size + 1 < W1.heap.size := by omega
  clear hW1
  have r0 : ∀ z, Below W1.heap.size W1 z → z.cell? ⟨w.heap.size, 0, none⟩ = some (.string (str x.1)) := fun z hz => (hz.cell l0).trans x0
  have r1 : ∀ z, Below W1.heap.size W1 z → z.cell? ⟨w.heap.size, 1, none⟩ = some (.string (str x.2)) := fun z hz => (hz.cell l0).trans x1
  have r2 : ∀ z, Below W1.heap.size W1 z → z.cell? ⟨w.heap.size + 1, 0, none⟩ = some (.string (str y.1)) := fun z hz => (hz.cell l1).trans y0
  have r3 : ∀ z, Below W1.heap.size W1 z → z.cell? ⟨w.heap.size + 1, 1, none⟩ = some (.string (str y.2)) := fun z hz => (hz.cell l1).trans y1
  have HB := Lib.hid hB
  clear x0 x1 y0 y1 l0 l1 hz hB
  go_region_held3 (fun z => Below W1.heap.size W1 z)
    (((repeat' first | assumption | exact Below.refl _ _ | exact Nat.le_refl _ | apply kp_alloc | apply kp_set | apply Below.drew | omega); done))
    ((first
      | (go_at_call 119; refine (hn.out _).mono ?_; rintro e w3 ⟨rfl, b3⟩; have k3 : Below W1.heap.size W1 w3 := (by refine trans9 ?_ b3; (repeat' first | assumption | exact Below.refl _ _ | exact Nat.le_refl _ | apply kp_alloc | apply kp_set | apply Below.drew | omega)))
      | (go_at_call 74; refine (hv.out _).mono ?_; rintro e w4 ⟨rfl, rfl⟩)
      | (go_at_call 111; refine (ho.out _ _ (by simp) (by simp) (by simp)).mono ?_; rintro e w5 ⟨rfl, rfl⟩)))
  all_goals
    go_wp2_with fail
    go_ret
    refine ⟨rfl, trans9 HB.out ?_⟩
    (repeat' first | assumption | exact Below.refl _ _ | exact Nat.le_refl _ | apply kp_alloc | apply kp_set | apply Below.drew | omega)

end Go.Proofs.YtgoibhbmndpgpaaGreatDoor

/- The walks of package label's Get, of slices.Index and slices.Contains at strings. -/
set_option maxRecDepth 100000
set_option linter.unusedVariables false
set_option linter.unusedSimpArgs false
namespace Go.Proofs.YtgoibhbmndpgpaaGreatDoor
open Go.RowKit Go.Sort
attribute [local go_sem ↓] Go.wp_at_zero Go.wp_at_succ

set_option maxHeartbeats 4000000 in
theorem get_calls (l : List Lb) (v : Value) (n : List UInt8) (w : World) (hv : LbRow w v l) :
    Calls Tryz.prog 122 #[v, .string (str n)] w fun e w' => e = .returned (.tuple #[.string (str (getL l n).1), .bool (getL l n).2]) ∧ Below w.heap.size w w' := by
  obtain ⟨A, cap, rfl, hlc, hcm, hnil, hrow⟩ := hv
  unfold maxLen at hcm
  have HR := Lib.hid hrow
  clear hrow hnil
  go_enter Tryz.func122, Tryz.ntmps122
  go_wp2_with fail
  go_loopw [10] (fun v wr => ∃ k : Nat, k ≤ l.length ∧ v = .int .i64 (k : Nat) ∧ Hid (getL l n = getL (l.drop k) n) ∧ Below w.heap.size w wr) (fun v _ => l.length - (intOf v).toNat)
  case atStart => exact ⟨0, Nat.zero_le _, rfl, rfl, Below.refl _ _⟩
  case round =>
    obtain ⟨k, hk, rfl, H, hb⟩ := hrel
    by_cases hkl : k < l.length
    · obtain ⟨b, off, rfl, hbs, hc⟩ := HR.out (by omega)
      obtain ⟨c0, c1⟩ := hc k (lbAt l k) (at_get hkl)
      have c0 := (hb.cell (p := ⟨b, off + k * 2, none⟩) hbs).trans c0
      have c1 := (hb.cell (p := ⟨b, off + k * 2 + 1, none⟩) hbs).trans c1
      have ha := Lib.hid (getL_at hkl H.out)
      generalize lbAt l k = X at *
      obtain ⟨X1, X2⟩ := X
      simp only at c0 c1 ha
      have hb1 := Lib.hid (kp_alloc hb (.cells #[.string (str X1), .string (str X2)] 48))
      have HB := Lib.hid hb
      clear hc hb
      by_cases hx : X1 = n
      · have hr := Lib.hid (ha.out.1 hx)
        have heq : (X1 == n) = true := beq_iff_eq.2 hx
        clear hx ha
        go_wp2
        go_ret2
        exact ⟨by rw [hr.out]; rfl, hb1.out⟩
      · have hr := Lib.hid (ha.out.2 hx)
        have heq : (X1 == n) = false := beq_eq_false_iff_ne.2 hx
        clear hx ha
        go_wp2
        go_roundw
        case rel => exact ⟨k + 1, hkl, by go_num, hr.out, hb1.out⟩
        case measure => simp [intOf]; omega
    · have hr := Lib.hid (getL_end (by omega) H.out)
      go_wp2
      go_ret2
      exact ⟨by rw [hr.out]; rfl, hb⟩

end Go.Proofs.YtgoibhbmndpgpaaGreatDoor

/- The walks of slices.CompareFunc at labels, of package label's Compare. -/
set_option maxRecDepth 100000
set_option linter.unusedVariables false
set_option linter.unusedSimpArgs false
namespace Go.Proofs.YtgoibhbmndpgpaaGreatDoor
open Go.RowKit Go.Sort
attribute [local go_sem ↓] Go.wp_at_zero Go.wp_at_succ

theorem at_elem {l : List Lb} {i : Nat} (h : i < l.length) : l[i] = lbAt l i := (lbAt_of h).symm
set_option maxHeartbeats 4000000 in
theorem cmpf_calls (a b : List Lb) (v u : Value) (w : World) (hv : LbRow w v a) (hu : LbRow w u b) :
    Calls Tryz.prog 123 #[v, u, .func (.func 124) #[] #[]] w fun e w' => e = .returned (.int .i64 (cmpL a b)) ∧ Below w.heap.size w w' := by
  obtain ⟨A, cap, rfl, hlc, hcm, hnil, hrow⟩ := hv
  obtain ⟨A', cap', rfl, hlc', hcm', hnil', hrow'⟩ := hu
  unfold maxLen at hcm hcm'
  have HR := Lib.hid hrow
  have HR' := Lib.hid hrow'
  clear hrow hnil hrow' hnil'
  go_enter Tryz.func123, Tryz.ntmps123
  go_wp2_with fail
  go_loopw [13] (fun v wr => ∃ k : Nat, k ≤ a.length ∧ k ≤ b.length ∧ v = .int .i64 (k : Nat) ∧ Hid (cmpL a b = cmpL (a.drop k) (b.drop k)) ∧ Below w.heap.size w wr) (fun v _ => a.length - (intOf v).toNat)
  case atStart => exact ⟨0, Nat.zero_le _, Nat.zero_le _, rfl, rfl, Below.refl _ _⟩
  case round =>
    obtain ⟨k, hka, hkb, rfl, H, hb⟩ := hrel
    by_cases h1 : k < a.length
    · obtain ⟨b1, off1, rfl, hbs, hc⟩ := HR.out (by omega)
      obtain ⟨c0, c1⟩ := hc k (lbAt a k) (at_get h1)
      have c0 := (hb.cell (p := ⟨b1, off1 + k * 2, none⟩) hbs).trans c0
      have c1 := (hb.cell (p := ⟨b1, off1 + k * 2 + 1, none⟩) hbs).trans c1
      clear hc
      by_cases h2 : k < b.length
      · have dge : decide ((b.length : Int) ≤ (k : Int)) = false := by simp; omega
        have dge2 : decide (b.length ≤ k) = false := by simp; omega
        obtain ⟨b2, off2, rfl, hbs2, hc2⟩ := HR'.out (by omega)
        obtain ⟨e0, e1⟩ := hc2 k (lbAt b k) (at_get h2)
        have e0 := (hb.cell (p := ⟨b2, off2 + k * 2, none⟩) hbs2).trans e0
        have e1 := (hb.cell (p := ⟨b2, off2 + k * 2 + 1, none⟩) hbs2).trans e1
        clear hc2
        have hs := cmpL_at h1 h2 H.out
        rw [at_elem h1, at_elem h2] at hs
        have HS := Lib.hid hs
        clear hs
        have hbn := Lib.hid (fun W => bynv_calls (lbAt a k) (lbAt b k) W)
        generalize lbAt a k = X at *
        generalize lbAt b k = Y at *
        obtain ⟨X1, X2⟩ := X
        obtain ⟨Y1, Y2⟩ := Y
        simp only at c0 c1 e0 e1
        have hl1 : b2 < wr.heap.size + 1 := by have := hb.size; omega
        have hl2 : b2 < wr.heap.size := by have := hb.size; omega
        have hb1 := Lib.hid (kp_alloc (kp_alloc hb (.cells #[.string (str X1), .string (str X2)] 48)) (.cells #[.string (str Y1), .string (str Y2)] 48))
        have HB := Lib.hid hb
        clear hb
        by_cases hC : lbc (X1, X2) (Y1, Y2) = 0
        · have hr := Lib.hid (HS.out.1 hC)
          rw [hC] at hbn
          clear HS hC
          go_wp2_with fail
          refine (hbn.out _).mono ?_; rintro e w1 ⟨rfl, k1⟩
          have kB := trans9 hb1.out k1
          clear k1
          go_wp2_with fail
          go_roundw
          case rel => exact ⟨k + 1, h1, h2, by go_num, hr.out, kB⟩
          case measure => simp [intOf]; omega
        · have hr := Lib.hid (HS.out.2 hC)
          have dC : (lbc (X1, X2) (Y1, Y2) == 0) = false := by simpa using hC
          generalize lbc (X1, X2) (Y1, Y2) = C at *
          clear HS
          go_wp2_with fail
          refine (hbn.out _).mono ?_; rintro e w1 ⟨rfl, k1⟩
          have kB := trans9 hb1.out k1
          clear k1
          go_wp2_with fail
          go_ret
          exact ⟨by rw [hr.out]; rfl, kB⟩
      · have dge : decide ((b.length : Int) ≤ (k : Int)) = true := by simp; omega
        have dge2 : decide (b.length ≤ k) = true := by simp; omega
        have hr := Lib.hid ((cmpL_end H.out).2.1 (by omega) h1)
        have kB := Lib.hid (kp_alloc hb (.cells #[.string (str (lbAt a k).1), .string (str (lbAt a k).2)] 48))
        generalize lbAt a k = X at *
        obtain ⟨X1, X2⟩ := X
        simp only at c0 c1
        go_wp2_with fail
        go_ret
        exact ⟨by rw [hr.out]; rfl, kB.out⟩
    · by_cases h2 : k < b.length
      · have d1 : decide ((a.length : Int) < (b.length : Int)) = true := by simp; omega
        have d2 : decide (a.length < b.length) = true := by simp; omega
        have hr := Lib.hid ((cmpL_end H.out).1 (by omega) h2)
        go_wp2
        go_ret
        exact ⟨by rw [hr.out]; rfl, hb⟩
      · have d1 : decide ((a.length : Int) < (b.length : Int)) = false := by simp; omega
        have d2 : decide (a.length < b.length) = false := by simp; omega
        have hr := Lib.hid ((cmpL_end H.out).2.2 (by omega) (by omega))
        go_wp2
        go_ret
        exact ⟨by rw [hr.out]; rfl, hb⟩
set_option maxHeartbeats 1000000 in
theorem lcompare_calls (a b : List Lb) (v u : Value) (w : World) (hv : LbRow w v a) (hu : LbRow w u b) :
    Calls Tryz.prog 112 #[v, u] w fun e w' => e = .returned (.int .i64 (cmpL a b)) ∧ Below w.heap.size w w' := by
  have hi := Lib.hid (cmpf_calls a b v u w hv hu)
  clear hv hu
  go_enter Tryz.func112, Tryz.ntmps112
  go_wp2_with fail
  refine hi.out.mono ?_
  rintro e w1 ⟨rfl, b1⟩
  go_wp2
  go_ret
  exact ⟨rfl, b1⟩

end Go.Proofs.YtgoibhbmndpgpaaGreatDoor
