/- The walks of package out: New, Put, Text, Len, Left, Full. -/
import Derived.Test.YtobpdeepbjpchaaOutA
namespace Go.Proofs.Ytobpdeepbjpchaa
open Go.RowKit

/-- how much room a number is -/
def room (x : Int) : Nat := min x.toNat 20000
/-- a buffer -/
structure OutAt (w : World) (b most : Nat) (text : ByteArray) (full : Bool) : Prop where
  lt : b < w.heap.size
  c0 : w.cell? ⟨b, 0, none⟩ = some (.int .i64 most)
  c1 : w.cell? ⟨b, 1, none⟩ = some (.string text)
  c2 : w.cell? ⟨b, 2, none⟩ = some (.bool full)
  fr : ∀ o, w.frozen? ⟨b, o, none⟩ = false
  fits : text.size ≤ most
  small : most ≤ 20000
theorem OutAt.grown {w w' : World} {b most : Nat} {text : ByteArray} {full : Bool} {row : Option Nat} (h : OutAt w b most text full) (hg : w.grownBy w' row) (hne : some b ≠ row) : OutAt w' b most text full :=
  ⟨Nat.lt_of_lt_of_le h.lt hg.size, (hg.cell_far ⟨b, 0, none⟩ h.lt hne).trans h.c0, (hg.cell_far ⟨b, 1, none⟩ h.lt hne).trans h.c1, (hg.cell_far ⟨b, 2, none⟩ h.lt hne).trans h.c2, fun o => (hg.frozen_far ⟨b, o, none⟩ h.lt hne).trans (h.fr o), h.fits, h.small⟩
theorem OutAt.below {w w' : World} {b most : Nat} {text : ByteArray} {full : Bool} (h : OutAt w b most text full) {B : Nat} (hb : Below B w w') (hB : b < B) : OutAt w' b most text full :=
  ⟨Nat.lt_of_lt_of_le h.lt hb.size, (hb.cell (p := ⟨b, 0, none⟩) hB).trans h.c0, (hb.cell (p := ⟨b, 1, none⟩) hB).trans h.c1, (hb.cell (p := ⟨b, 2, none⟩) hB).trans h.c2, fun o => (hb.frozen (p := ⟨b, o, none⟩) hB).trans (h.fr o), h.fits, h.small⟩
/-- how much can still be put -/
def leftOf (most : Nat) (text : ByteArray) (full : Bool) : Nat := if full then 0 else most - text.size
/-- do the parts go in? -/
def fitsB (most : Nat) (text : ByteArray) (full : Bool) (k : Nat) : Bool := !full && decide (text.size + k ≤ most)
theorem below_grown {w w' : World} (h : Below w.heap.size w w') (row : Option Nat) : w.grownBy w' row := ⟨h.os, h.tape, h.output, h.size, fun k hk _ => h.block k hk⟩

theorem room_cases (x : Int) : (0 > x ∧ room x = 0) ∨ (¬ 0 > x ∧ 20000 < x ∧ room x = 20000) ∨ (¬ 0 > x ∧ ¬ 20000 < x ∧ ((room x : Nat) : Int) = x) := by
  unfold room
  by_cases h : 0 > x
  · exact Or.inl ⟨h, by omega⟩
  · by_cases h2 : 20000 < x
    · exact Or.inr (Or.inl ⟨h, h2, by omega⟩)
    · exact Or.inr (Or.inr ⟨h, h2, by omega⟩)

set_option maxHeartbeats 1000000 in
theorem new_calls (x : Int) (w : World) : Calls Try.prog 7 #[.int .i64 x] w fun e w' => e = .returned (.pointer (some ⟨w.heap.size, 0, none⟩)) ∧ w' = w.alloc (.cells #[.int .i64 (room x), .string ⟨#[]⟩, .bool false] 36) := by
  rcases room_cases x with ⟨h, e⟩ | ⟨h, h2, e⟩ | ⟨h, h2, e⟩
  · rw [e]
    clear e
    go_enter Try.func7, Try.ntmps7
    go_wp2
    go_ret
    exact ⟨rfl, rfl⟩
  · rw [e]
    clear e
    go_enter Try.func7, Try.ntmps7
    go_wp2
    go_ret
    exact ⟨rfl, rfl⟩
  · rw [e]
    clear e
    go_enter Try.func7, Try.ntmps7
    go_wp2
    go_ret
    exact ⟨rfl, rfl⟩
theorem OutAt.new (x : Int) (w : World) : OutAt (w.alloc (.cells #[.int .i64 (room x), .string ⟨#[]⟩, .bool false] 36)) w.heap.size (room x) ⟨#[]⟩ false :=
  ⟨by simp, by simp, by simp, by simp, fun o => by simp, Nat.zero_le _, by unfold room; omega⟩

set_option maxHeartbeats 1000000 in
theorem text_calls (b most : Nat) (text : ByteArray) (full : Bool) (w : World) (h : OutAt w b most text full) :
    Calls Try.prog 9 #[.pointer (some ⟨b, 0, none⟩)] w fun e w' => e = .returned (.string text) ∧ w = w' := by
  obtain ⟨lt, c0, c1, c2, fr, ft, sm⟩ := h
  go_enter Try.func9, Try.ntmps9
  go_wp2
  go_ret
  exact ⟨rfl, rfl⟩
set_option maxHeartbeats 1000000 in
theorem len_calls (b most : Nat) (text : ByteArray) (full : Bool) (w : World) (h : OutAt w b most text full) :
    Calls Try.prog 10 #[.pointer (some ⟨b, 0, none⟩)] w fun e w' => e = .returned (.int .i64 text.size) ∧ w = w' := by
  obtain ⟨lt, c0, c1, c2, fr, ft, sm⟩ := h
  go_enter Try.func10, Try.ntmps10
  go_wp2
  go_ret
  exact ⟨rfl, rfl⟩
set_option maxHeartbeats 1000000 in
theorem full_calls (b most : Nat) (text : ByteArray) (full : Bool) (w : World) (h : OutAt w b most text full) :
    Calls Try.prog 12 #[.pointer (some ⟨b, 0, none⟩)] w fun e w' => e = .returned (.bool full) ∧ w = w' := by
  obtain ⟨lt, c0, c1, c2, fr, ft, sm⟩ := h
  go_enter Try.func12, Try.ntmps12
  go_wp2
  go_ret
  exact ⟨rfl, rfl⟩
set_option maxHeartbeats 1000000 in
theorem left_calls (b most : Nat) (text : ByteArray) (full : Bool) (w : World) (h : OutAt w b most text full) :
    Calls Try.prog 11 #[.pointer (some ⟨b, 0, none⟩)] w fun e w' => e = .returned (.int .i64 (leftOf most text full)) ∧ Below w.heap.size w w' := by
  obtain ⟨lt, c0, c1, c2, fr, ft, sm⟩ := h
  cases full with
  | true =>
    go_enter Try.func11, Try.ntmps11
    go_wp2
    go_ret
    exact ⟨rfl, Below.refl _ _⟩
  | false =>
    have e : ((leftOf most text false : Nat) : Int) = (most : Int) - text.size := by unfold leftOf; rw [if_neg (by simp)]; omega
    rw [e]
    clear e
    go_enter Try.func11, Try.ntmps11
    go_wp2
    go_region
    all_goals (go_wp2; go_ret; exact ⟨rfl, Below.drew (Below.refl _ _)⟩)

theorem OutAt.fill {w : World} {b most : Nat} {text : ByteArray} {full : Bool} (h : OutAt w b most text full) : OutAt (w.setCell ⟨b, 2, none⟩ (.bool true)) b most text true := by
  obtain ⟨h4, h0, h1, h2, h5, ft, sm⟩ := h
  exact ⟨by simpa [World.setCell] using h4, by go_simp, by go_simp, by go_simp, fun o => by go_simp, ft, sm⟩
theorem OutAt.put {w : World} {b most : Nat} {text : ByteArray} {full : Bool} (h : OutAt w b most text full) (t : ByteArray) (ht : t.size ≤ most) : OutAt (w.setCell ⟨b, 1, none⟩ (.string t)) b most t full := by
  obtain ⟨h4, h0, h1, h2, h5, ft, sm⟩ := h
  exact ⟨by simpa [World.setCell] using h4, by go_simp, by go_simp, by go_simp, fun o => by go_simp, ht, sm⟩
theorem grown_set {w w1 : World} {b i : Nat} {v : Value} (h : w.grownBy w1 (some b)) : w.grownBy (w1.setCell ⟨b, i, none⟩ v) (some b) :=
  ⟨h.os, h.tape, h.output, by simpa [World.setCell] using h.size, fun k hk hne => (Below.heap_setCell _ _ _ _ (by intro e; exact hne (by rw [e]))).trans (h.block k hk hne)⟩

/-- what Put tells, and what is there behind it -/
def PutPost (w : World) (b most : Nat) (text : ByteArray) (full : Bool) (k : Nat) (l : List UInt8) (w' : World) : Prop :=
  w.grownBy w' (some b) ∧ OutAt w' b most (if fitsB most text full k then cat text l else text) (!fitsB most text full k)

set_option maxHeartbeats 2000000 in
theorem put_calls (b most : Nat) (text : ByteArray) (full : Bool) (v : Value) (n : Nat) (es : Nat → ByteArray) (w : World) (h : OutAt w b most text full) (hv : StrRow w v n es) :
    Calls Try.prog 8 #[.pointer (some ⟨b, 0, none⟩), v] w fun e w' => e = .returned (.bool (fitsB most text full (lenN es n))) ∧ PutPost w b most text full (lenN es n) (catN es n) w' := by
  have H := Lib.hid h
  obtain ⟨lt, c0, c1, c2, fr, ft, sm⟩ := h
  cases full with
  | true =>
    clear hv
    go_enter Try.func8, Try.ntmps8
    go_wp2
    go_ret
    exact ⟨rfl, grown_set (below_grown (Below.refl _ _) _), H.out.fill⟩
  | false =>
    have Hl := Lib.hid (left_calls b most text false w H.out)
    have hlo : leftOf most text false = most - text.size := by unfold leftOf; rw [if_neg (by simp)]
    have hle : leftOf most text false ≤ 4611686018427387904 := by omega
    have hfb : fitsB most text false (lenN es n) = decide (lenN es n ≤ leftOf most text false) := by
      unfold fitsB; rw [hlo]; simp; omega
    have Hv := Lib.hid hv
    by_cases hfit : lenN es n ≤ leftOf most text false
    · have hfb1 : fitsB most text false (lenN es n) = true := by rw [hfb, decide_eq_true hfit]
      have Hf := Lib.hid fun W (hW : Below w.heap.size w W) => fit_calls (leftOf most text false) v n es W (strRow_grown Hv.out hW) hle
      rw [decide_eq_true hfit] at Hf
      have hsz : (cat text (catN es n)).size ≤ most := by rw [cat_size, catN_len]; omega
      have Hj := Lib.hid fun W (hW : Below w.heap.size w W) => join_calls text v n es W (strRow_grown Hv.out hW) (by omega)
      have Hz := Lib.hid hsz
      unfold PutPost
      rw [hfb1]
      clear hv hlo hle hfb hfit hfb1 hsz
      go_enter Try.func8, Try.ntmps8
      go_wp2_with fail
      refine Hl.out.mono ?_; rintro e w1 ⟨rfl, b1⟩
      have B1 := Lib.hid b1
      clear b1
      go_wp2_with fail
      refine (Hf.out _ B1.out).mono ?_; rintro e w2 ⟨rfl, rfl⟩
      obtain ⟨lt1, d0, d1, d2, f1, _, _⟩ := H.out.below B1.out lt
      go_wp2_with fail
      refine (Hj.out _ B1.out).mono ?_; rintro e w2 ⟨rfl, b2⟩
      have O2 := (H.out.below B1.out lt).below b2 lt1
      have B2 := Lib.hid (trans9 B1.out b2)
      have O3 := Lib.hid O2
      obtain ⟨lt2, g0, g1, g2, k1, _, _⟩ := O2
      clear b2
      go_wp2
      go_ret
      exact ⟨rfl, grown_set (below_grown B2.out _), O3.out.put _ Hz.out⟩
    · have hfb1 : fitsB most text false (lenN es n) = false := by rw [hfb, decide_eq_false hfit]
      have Hf := Lib.hid fun W (hW : Below w.heap.size w W) => fit_calls (leftOf most text false) v n es W (strRow_grown Hv.out hW) hle
      rw [decide_eq_false hfit] at Hf
      unfold PutPost
      rw [hfb1]
      clear hv hlo hle hfb hfit hfb1
      go_enter Try.func8, Try.ntmps8
      go_wp2_with fail
      refine Hl.out.mono ?_; rintro e w1 ⟨rfl, b1⟩
      have B1 := Lib.hid b1
      clear b1
      go_wp2_with fail
      refine (Hf.out _ B1.out).mono ?_; rintro e w2 ⟨rfl, rfl⟩
      have O2 := H.out.below B1.out lt
      have O3 := Lib.hid O2
      obtain ⟨lt1, d0, d1, d2, f1, _, _⟩ := O2
      go_wp2
      go_ret
      exact ⟨rfl, grown_set (below_grown B1.out _), O3.out.fill⟩

end Go.Proofs.Ytobpdeepbjpchaa
