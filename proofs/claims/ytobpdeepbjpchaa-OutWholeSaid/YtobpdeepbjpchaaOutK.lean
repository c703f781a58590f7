/- The law's own look ('known') is passed. -/
import Derived.Test.YtobpdeepbjpchaaOutB
namespace Go.Proofs.Ytobpdeepbjpchaa
open Go.RowKit

/-- strings that have been laid side by side -/
theorem strRow_new (w : World) (l : List ByteArray) (t : TypeId) (hl : l.length ≤ maxLen) (hs : ∀ s ∈ l, s.size ≤ maxLen) :
    StrRow (w.alloc (.cells (l.map Value.string).toArray t)) (.slice (some ⟨w.heap.size, 0, none⟩) l.length l.length) l.length (fun i => l.getD i ByteArray.empty) := by
  refine ⟨_, _, rfl, Nat.le_refl _, hl, fun _ => ⟨w.heap.size, 0, rfl, by simp, fun i hi => ⟨?_, ?_⟩⟩⟩
  · have hb : (w.alloc (.cells (l.map Value.string).toArray t)).heap[w.heap.size]? = some (.cells (l.map Value.string).toArray t (0, 0)) := heap_alloc_new w _
    rw [Lib.cell_of_heap hb]
    simp [hi]
  · have : l.getD i ByteArray.empty = l[i] := by simp [hi]
    show (l.getD i ByteArray.empty).size ≤ maxLen
    rw [this]
    exact hs _ (List.getElem_mem _)
/-- .. where the block's number is spelled otherwise -/
theorem strRow_at (w : World) (l : List ByteArray) (t : TypeId) (g : Nat) (hg : g = w.heap.size) (hl : l.length ≤ maxLen) (hs : ∀ s ∈ l, s.size ≤ maxLen) :
    StrRow (w.alloc (.cells (l.map Value.string).toArray t)) (.slice (some ⟨g, 0, none⟩) l.length l.length) l.length (fun i => l.getD i ByteArray.empty) := by
  subst hg; exact strRow_new w l t hl hs
theorem strRow_nil (w : World) (es : Nat → ByteArray) : StrRow w (.slice none 0 0) 0 es := ⟨none, 0, rfl, Nat.le_refl _, by unfold maxLen; omega, fun h => absurd h (by omega)⟩
theorem left_full_calls (b most : Nat) (text : ByteArray) (w : World) (h : OutAt w b most text true) :
    Calls Try.prog 11 #[.pointer (some ⟨b, 0, none⟩)] w fun e w' => e = .returned (.int .i64 0) ∧ w = w' := by
  obtain ⟨lt, c0, c1, c2, fr, ft, sm⟩ := h
  go_enter Try.func11, Try.ntmps11
  go_wp2
  go_ret
  exact ⟨rfl, rfl⟩

/-- a put that is told, by what the parts are -/
theorem put_is {b most : Nat} {text : ByteArray} {full : Bool} {v : Value} {n : Nat} {es : Nat → ByteArray} {w : World} (h : OutAt w b most text full) (hv : StrRow w v n es) (r : Bool) (t : ByteArray)
    (hr : fitsB most text full (lenN es n) = r) (ht : (if r then cat text (catN es n) else text) = t) :
    Calls Try.prog 8 #[.pointer (some ⟨b, 0, none⟩), v] w fun e w' => e = .returned (.bool r) ∧ w.grownBy w' (some b) ∧ OutAt w' b most t (!r) :=
  (put_calls b most text full v n es w h hv).mono fun e w' ⟨he, hp⟩ => by
    unfold PutPost at hp
    rw [hr] at he hp
    rw [ht] at hp
    exact ⟨he, hp⟩

set_option maxHeartbeats 4000000 in
theorem known_calls (w : World) : Calls Try.prog 6 #[] w fun e w' => e = .returned (.bool true) ∧ Below w.heap.size w w' := by
  have Ha : ∀ s ∈ [(⟨#[97]⟩ : ByteArray), ⟨#[98, 99]⟩], s.size ≤ maxLen := by unfold maxLen; decide
  have Hb : ∀ s ∈ [(⟨#[97]⟩ : ByteArray)], s.size ≤ maxLen := by unfold maxLen; decide
  have Hc : ∀ s ∈ [(⟨#[97]⟩ : ByteArray), ⟨#[]⟩, ⟨#[98, 99]⟩], s.size ≤ maxLen := by unfold maxLen; decide
  have ha := Lib.hid Ha
  have hb := Lib.hid Hb
  have hc := Lib.hid Hc
  clear Ha Hb Hc
  go_enter Try.func6, Try.ntmps6
  go_wp2_with fail
  refine (new_calls 2 _).mono ?_; rintro e w1 ⟨rfl, rfl⟩
  have O0 := OutAt.new 2 w
  rw [show room 2 = 2 from rfl] at O0 ⊢
  have B0 := (Below.refl w.heap.size w).alloc (Nat.le_refl _) (.cells #[.int .i64 (2 : Nat), .string ⟨#[]⟩, .bool false] 36)
  generalize w.alloc (.cells #[.int .i64 (2 : Nat), .string ⟨#[]⟩, .bool false] 36) = W1 at *
  have o0 := Lib.hid O0
  have b0 := Lib.hid B0
  clear O0 B0
  go_wp2_with fail
  refine (put_is (o0.out.below ((Below.refl _ _).alloc (Nat.le_refl _) _) o0.out.lt) (strRow_new _ _ _ (by unfold maxLen; decide) ha.out) false ⟨#[]⟩ (by rfl) rfl).mono ?_; rintro e w2 ⟨rfl, g2, o2⟩
  have b2 := (b0.out.alloc b0.out.size _).grown g2 (by have := b0.out.size; simp; omega) (fun k hk => by cases hk; exact Nat.le_refl _)
  have O2 := Lib.hid o2
  have B2 := Lib.hid b2
  clear o0 b0 g2 o2 b2
  go_wp2_with fail
  refine (put_is (O2.out.below ((Below.refl _ _).alloc (Nat.le_refl _) _) O2.out.lt) (strRow_new _ _ _ (by unfold maxLen; decide) hb.out) false ⟨#[]⟩ (by rfl) rfl).mono ?_; rintro e w3 ⟨rfl, g3, o3⟩
  have b3 := (B2.out.alloc B2.out.size _).grown g3 (by have := B2.out.size; simp; omega) (fun k hk => by cases hk; exact Nat.le_refl _)
  have O3 := Lib.hid o3
  have B3 := Lib.hid b3
  clear O2 B2 g3 o3 b3
  go_wp2_with fail
  refine (new_calls 3 _).mono ?_; rintro e w4 ⟨rfl, rfl⟩
  have P4 := OutAt.new 3 w3
  rw [show room 3 = 3 from rfl] at P4 ⊢
  have b4 := (Below.refl w3.heap.size w3).alloc (Nat.le_refl _) (.cells #[.int .i64 (3 : Nat), .string ⟨#[]⟩, .bool false] 36)
  have B4 := Lib.hid (trans9 B3.out b4)
  have O4 := Lib.hid (O3.out.below b4 O3.out.lt)
  have hne : w.heap.size < w3.heap.size := O3.out.lt
  have Hne := Lib.hid hne
  generalize w3.alloc (.cells #[.int .i64 (3 : Nat), .string ⟨#[]⟩, .bool false] 36) = W4 at *
  generalize w3.heap.size = z at *
  have p4 := Lib.hid P4
  clear P4 b4 O3 B3 hne
  go_wp2_with fail
  refine (put_is (p4.out.below ((Below.refl _ _).alloc (Nat.le_refl _) _) p4.out.lt) (strRow_new _ _ _ (by unfold maxLen; decide) hc.out) true ⟨#[97, 98, 99]⟩ (by rfl) rfl).mono ?_; rintro e w5 ⟨rfl, g5, q5⟩
  have b5 := (B4.out.alloc B4.out.size _).grown g5 (by have := B4.out.size; simp; omega) (fun k hk => by cases hk; have := Hne.out; omega)
  have O5 := Lib.hid ((O4.out.below ((Below.refl _ _).alloc (Nat.le_refl _) _) O4.out.lt).grown g5 (fun e => by have := Hne.out; cases e; omega))
  have Q5 := Lib.hid q5
  have B5 := Lib.hid b5
  clear O4 B4 g5 q5 b5 p4
  go_wp2_with fail
  refine (full_calls _ _ _ _ _ O5.out).mono ?_; rintro e w6 ⟨rfl, rfl⟩
  go_wp2_with fail
  refine (text_calls _ _ _ _ _ O5.out).mono ?_; rintro e w6 ⟨rfl, rfl⟩
  go_wp2_with fail
  refine (left_full_calls _ _ _ _ O5.out).mono ?_; rintro e w6 ⟨rfl, rfl⟩
  go_wp2_with fail
  refine (text_calls _ _ _ _ _ Q5.out).mono ?_; rintro e w6 ⟨rfl, rfl⟩
  go_wp2_with fail
  refine (len_calls _ _ _ _ _ Q5.out).mono ?_; rintro e w6 ⟨rfl, rfl⟩
  go_wp2_with fail
  refine (left_calls _ _ _ _ _ Q5.out).mono ?_; rintro e w6 ⟨rfl, b6⟩
  rw [show ((leftOf 3 ⟨#[97, 98, 99]⟩ (!true) : Nat) : Int) = 0 from rfl]
  have Q6 := Lib.hid (Q5.out.below b6 Q5.out.lt)
  have B6 := Lib.hid (trans9 B5.out b6)
  clear O5 Q5 B5 b6
  go_wp2_with fail
  refine (full_calls _ _ _ _ _ Q6.out).mono ?_; rintro e w7 ⟨rfl, rfl⟩
  go_wp2_with fail
  refine (put_is Q6.out (strRow_nil _ (fun _ => ByteArray.empty)) true ⟨#[97, 98, 99]⟩ (by rfl) rfl).mono ?_; rintro e w7 ⟨rfl, g7, q7⟩
  have B7 := Lib.hid (B6.out.grown g7 B6.out.size (fun k hk => by cases hk; have := Hne.out; omega))
  clear g7 q7
  go_wp2
  go_ret
  exact ⟨rfl, B7.out⟩
end Go.Proofs.Ytobpdeepbjpchaa
