/- The walks of package spot. -/
import Derived.Test.YtpejphfggfppdaaSpotA
import Derived.Deep.QuietTactic
import Derived.BigQuiet
namespace Go.Proofs.Ytpejphfggfppdaa
open Go.RowKit

theorem extract_list (s : ByteArray) (k : Nat) : (s.extract 0 k).data.toList = s.data.toList.take k := by
  rw [ByteArray.data_extract, Array.toList_extract, List.extract_eq_take_drop]; simp
theorem extract_size (s : ByteArray) (k : Nat) (h : k ≤ s.size) : (s.extract 0 k).size = k := by
  rw [ByteArray.size_extract]; omega

set_option maxHeartbeats 1000000 in
theorem lastByte_calls (s : ByteArray) (c : UInt8) (w : World) (hs : s.size ≤ maxLen) :
    Calls Try.prog 15 #[.string s, .int .u8 c.toNat] w fun e w' => e = .returned (.int .i64 ((s.size : Int) - (Sp.tailC c s.data.toList : Int) - 1)) ∧ w = w' := by
  go_enter Try.func15, Try.ntmps15
  go_wp2_with (go_at_call 17; refine (lastIn_calls _ _ _ hs).mono ?_; rintro e w' ⟨rfl, rfl⟩)
  go_ret
  exact ⟨rfl, rfl⟩

theorem agg3 {a b c a' b' c' : Int} (h1 : a = a') (h2 : b = b') (h3 : c = c') : Ending.returned (.agg #[.int .i64 a, .int .i64 b, .int .i64 c]) = .returned (.agg #[.int .i64 a', .int .i64 b', .int .i64 c']) := by rw [h1, h2, h3]

set_option maxHeartbeats 1000000 in
theorem of_calls (s : ByteArray) (i : Int) (w : World) (hs : s.size ≤ 562949953421312) :
    Calls Try.prog 8 #[.string s, .int .i64 i] w fun e w' =>
      e = .returned (.agg #[.int .i64 (Sp.off s i : Int), .int .i64 (Sp.line s i : Int), .int .i64 (Sp.col s i : Int)]) ∧ Below w.heap.size w w' := by
  have hm : s.size ≤ maxLen := by unfold maxLen; omega
  obtain ⟨k, t, hk, ht, hway⟩ : ∃ (k : Nat) (t : ByteArray), Sp.off s i = k ∧ Hid (t.size = k ∧ t.data.toList = s.data.toList.take k ∧ k ≤ s.size) ∧
      ((i < 0 ∧ k = 0 ∧ t = ByteArray.empty) ∨ ((s.size : Int) < i ∧ k = s.size ∧ t = s) ∨ (i = (k : Int) ∧ k ≤ s.size ∧ t = s.extract 0 k)) := by
    by_cases h0 : i < 0
    · exact ⟨0, _, by unfold Sp.off; omega, ⟨rfl, rfl, by omega⟩, Or.inl ⟨h0, rfl, rfl⟩⟩
    · by_cases h1 : (s.size : Int) < i
      · exact ⟨s.size, _, by unfold Sp.off; omega, ⟨rfl, (Sp.take_all s).symm, Nat.le_refl _⟩, Or.inr (Or.inl ⟨h1, rfl, rfl⟩)⟩
      · refine ⟨i.toNat, _, by unfold Sp.off; omega, ⟨extract_size s i.toNat (by omega), extract_list s _, by omega⟩, Or.inr (Or.inr ⟨by omega, by omega, rfl⟩)⟩
  have l1 := Sp.lfs_le t.data.toList
  have l2 := Sp.tailC_le 10 t.data.toList
  rw [Sp.size_len, ht.out.1] at l1 l2
  have htm : t.size ≤ maxLen := by have := ht.out; omega
  have cl := fun W => lastByte_calls t 10 W htm
  have cc := fun W => count_one_calls t W
  have el : Sp.line s i = Sp.lfs t.data.toList + 1 := by unfold Sp.line; rw [hk, ht.out.2.1]
  have ec : Sp.col s i = Sp.tailC 10 t.data.toList + 1 := by unfold Sp.col; rw [hk, ht.out.2.1]
  rw [hk, el, ec]
  rw [ht.out.1] at cl
  generalize Sp.lfs t.data.toList = l at *
  generalize Sp.tailC 10 t.data.toList = n at *
  have Cl := Lib.hid cl
  have Cc := Lib.hid cc
  have hks : k ≤ s.size := ht.out.2.2
  clear hk el ec htm ht cl cc
  rcases hway with ⟨h0, rfl, rfl⟩ | ⟨h0, rfl, rfl⟩ | ⟨rfl, h0, rfl⟩
  · obtain rfl : l = 0 := by omega
    obtain rfl : n = 0 := by omega
    have hz : (0 : Int) ≤ (s.size : Int) := by omega
    go_enter Try.func8, Try.ntmps8
    go_wp2_with fail
    refine (Cl.out _).mono ?_; rintro e w' ⟨rfl, rfl⟩
    go_wp2_with fail
    refine (Cc.out _).mono ?_; rintro e w' ⟨rfl, rfl⟩
    go_wp2
    refine bodyPost_ret (v := .agg #[.int .i64 0, .int .i64 1, .int .i64 1]) (by simp [results, Try.results8, go_sem]) rfl ⟨rfl, ?_⟩
    exact (Below.refl _ _).alloc (Nat.le_refl _) _
  · have h2 : ¬ i ≤ (t.size : Int) := by omega
    have h3 : (0 : Int) ≤ i := by omega
    go_enter Try.func8, Try.ntmps8
    go_wp2_with fail
    refine (Cl.out _).mono ?_; rintro e w' ⟨rfl, rfl⟩
    go_wp2_with fail
    refine (Cc.out _).mono ?_; rintro e w' ⟨rfl, rfl⟩
    go_wp2
    refine bodyPost_ret (v := .agg #[.int .i64 (t.size : Int), .int .i64 ((l : Int) + 1), .int .i64 ((t.size : Int) - ((t.size : Int) - (n : Int)) + 1)]) (by simp [results, Try.results8, go_sem]) rfl ⟨agg3 rfl (by omega) (by omega), ?_⟩
    exact (Below.refl _ _).alloc (Nat.le_refl _) _
  · go_enter Try.func8, Try.ntmps8
    go_wp2_with fail
    refine (Cl.out _).mono ?_; rintro e w' ⟨rfl, rfl⟩
    go_wp2_with fail
    refine (Cc.out _).mono ?_; rintro e w' ⟨rfl, rfl⟩
    go_wp2
    refine bodyPost_ret (v := .agg #[.int .i64 (k : Int), .int .i64 ((l : Int) + 1), .int .i64 ((k : Int) - ((k : Int) - (n : Int)) + 1)]) (by simp [results, Try.results8, go_sem]) rfl ⟨agg3 rfl (by omega) (by omega), ?_⟩
    exact (Below.refl _ _).alloc (Nat.le_refl _) _

set_option maxHeartbeats 1000000 in
theorem before_calls (a b c x y z : Int) (w : World) :
    Calls Try.prog 14 #[.agg #[.int .i64 a, .int .i64 b, .int .i64 c], .agg #[.int .i64 x, .int .i64 y, .int .i64 z]] w fun e w' => e = .returned (.bool (decide (a < x))) ∧ Below w.heap.size w w' := by
  go_enter Try.func14, Try.ntmps14
  go_wp2
  go_ret
  exact ⟨rfl, ((Below.refl _ _).alloc (Nat.le_refl _) _).alloc (by simp) _⟩

/-- a fault: its code, its spot -/
structure Ft where
  c : Int
  o : Int
  l : Int
  k : Int
deriving DecidableEq
abbrev Ft.v (f : Ft) : Value := .agg #[.int .i64 f.c, .int .i64 f.o, .int .i64 f.l, .int .i64 f.k]
def Ft.zero : Ft := ⟨0, 0, 0, 0⟩
def Sp.at (c : Int) (s : ByteArray) (i : Int) : Ft := if c = 0 then Ft.zero else ⟨c, Sp.off s i, Sp.line s i, Sp.col s i⟩

set_option maxHeartbeats 1000000 in
theorem at_calls (c : Int) (s : ByteArray) (i : Int) (w : World) (hs : s.size ≤ 562949953421312) :
    Calls Try.prog 10 #[.int .i64 c, .string s, .int .i64 i] w fun e w' => e = .returned (Sp.at c s i).v ∧ Below w.heap.size w w' := by
  by_cases hc : c = 0
  · subst hc
    have e : Sp.at 0 s i = Ft.zero := by unfold Sp.at; simp
    rw [e]
    clear e
    go_enter Try.func10, Try.ntmps10
    go_wp2
    refine bodyPost_ret (v := .agg #[.int .i64 0, .int .i64 0, .int .i64 0, .int .i64 0]) (by simp [results, Try.results10, go_sem]) rfl ⟨rfl, ?_⟩
    exact (Below.refl _ _).alloc (Nat.le_refl _) _
  · have e : Sp.at c s i = ⟨c, Sp.off s i, Sp.line s i, Sp.col s i⟩ := by unfold Sp.at; simp [hc]
    rw [e]
    clear e
    have d : (c == 0) = false := by simpa using hc
    go_enter Try.func10, Try.ntmps10
    go_wp2_with fail
    refine (of_calls s i _ hs).mono ?_; rintro e w1 ⟨rfl, b1⟩
    obtain ⟨hcell, hfr⟩ := bcell b1
    go_wp2
    refine bodyPost_ret (v := .agg #[.int .i64 c, .int .i64 (Sp.off s i : Int), .int .i64 (Sp.line s i : Int), .int .i64 (Sp.col s i : Int)]) (by simp [results, Try.results10, go_sem, hcell]) rfl ⟨rfl, ?_⟩
    repeat (refine Below.setCell ?_ (by simp) _)
    exact ((Below.refl _ _).alloc (Nat.le_refl _) _).trans (b1.mono (by simp))

end Go.Proofs.Ytpejphfggfppdaa
