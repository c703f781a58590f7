/- The walks of the reference's Norm, Good (RefDecE's first two, where the seat holds no isDigit). -/
import Derived.Test.YtmbpldnclnahmaaDoorRefDecD
import Derived.Lib.Strings
import Derived.Test.YtmbpldnclnahmaaDoorDecN
set_option linter.unusedVariables false
set_option linter.unusedSimpArgs false
namespace Go.Proofs.YtmbpldnclnahmaaDoor
open Go.RowKit Dc

set_option maxHeartbeats 2000000 in
theorem rnorm_calls (m s : Int) (w : World) (hm1 : -9223372036854775808 ≤ m) (hm2 : m ≤ 9223372036854775807) (hs1 : -9223372036854775808 ≤ s) (hs2 : s ≤ 9223372036854775807) :
    Calls Tryd.prog 21 #[.int .i64 m, .int .i64 s] w fun e w' => e = .returned (rdecV (decOf (decide (m < 0)) m.natAbs s)) ∧ Below w.heap.size w w' := by
  have b0 := (Below.refl w.heap.size w).alloc (Nat.le_refl _) (.cells #[.int .i64 0, .int .i64 0] 23)
  have B0 := Lib.hid b0
  have ha := Lib.hid (fun W => ramount_calls m W hm1 hm2)
  have hd := Lib.hid (fun W v (hv : DR W v (digs m.natAbs)) => rdecimal_calls (decide (m < 0)) (digs m.natAbs) v s W hv (digs_le _) hs1 hs2)
  rw [digs_val] at hd
  clear b0
  go_enter Tryd.func21, Tryd.ntmps21
  go_wp2_with fail
  refine (ha.out _).mono ?_; rintro e w1 ⟨v, rfl, d1, b1⟩
  have hd1 := Lib.hid (hd.out w1 v d1)
  have B1 := Lib.hid b1
  clear d1 b1 hd ha
  go_wp2_with fail
  refine hd1.out.mono ?_; rintro e w2 ⟨rfl, b2⟩
  have b12 := trans9 B1.out b2
  have B2 := Lib.hid (B0.out.trans (b12.mono B0.out.size))
  have c0 : w2.cell? ⟨w.heap.size, 0, none⟩ = some (.int .i64 0) := (b12.cell (p := ⟨w.heap.size, 0, none⟩) (by simp)).trans (by simp [go_sem])
  have c1 : w2.cell? ⟨w.heap.size, 1, none⟩ = some (.int .i64 0) := (b12.cell (p := ⟨w.heap.size, 1, none⟩) (by simp)).trans (by simp [go_sem])
  have f0 : w2.frozen? ⟨w.heap.size, 0, none⟩ = false := (b12.frozen (p := ⟨w.heap.size, 0, none⟩) (by simp)).trans (by simp [go_sem])
  have f1 : w2.frozen? ⟨w.heap.size, 1, none⟩ = false := (b12.frozen (p := ⟨w.heap.size, 1, none⟩) (by simp)).trans (by simp [go_sem])
  clear b2 b12 B1 hd1 B0
  cases ho : decOf (decide (m < 0)) m.natAbs s with
  | none =>
    have Ho := Lib.hid ho
    rw [show rdecV none = Value.tuple #[.agg #[.int .i64 0, .int .i64 0], .bool false] from rfl]
    clear ho
    go_wp2_with fail
    refine bodyPost_ret (v := rdecV none) (by simp [results, Tryd.results21, go_sem, rdecV, c0, c1]) rfl ⟨by rw [Ho.out], ?_⟩
    repeat (refine Below.setCell ?_ (by simp) _)
    exact B2.out
  | some r =>
    obtain ⟨a, k⟩ := r
    have Ho := Lib.hid ho
    rw [show rdecV (some (a, k)) = Value.tuple #[.agg #[.int .i64 a, .int .i64 (k : Nat)], .bool true] from rfl]
    clear ho
    go_wp2_with fail
    refine bodyPost_ret (v := rdecV (some (a, k))) (by simp [results, Tryd.results21, go_sem, rdecV, c0, c1]) rfl ⟨by rw [Ho.out], ?_⟩
    repeat (refine Below.setCell ?_ (by simp) _)
    exact B2.out

set_option maxHeartbeats 1000000 in
theorem rgood_calls (m s : Int) (w : World) :
    Calls Tryd.prog 38 #[.agg #[.int .i64 m, .int .i64 s]] w fun e w' => e = .returned (.bool (goodD m s)) ∧ Below w.heap.size w w' := by
  have b0 := (Below.refl w.heap.size w).alloc (Nat.le_refl _) (.cells #[.int .i64 m, .int .i64 s] 23)
  have B0 := Lib.hid b0
  clear b0
  by_cases h1 : s < 0
  · have e : goodD m s = false := by unfold goodD; simp; omega
    rw [e]; clear e
    go_enter Tryd.func38, Tryd.ntmps38
    go_wp2
    go_ret
    exact ⟨rfl, B0.out⟩
  by_cases h2 : s > 18
  · have e : goodD m s = false := by unfold goodD; simp; omega
    rw [e]; clear e
    go_enter Tryd.func38, Tryd.ntmps38
    go_wp2
    go_ret
    exact ⟨rfl, B0.out⟩
  by_cases h3 : m = -9223372036854775808
  · have e : goodD m s = false := by unfold goodD; simp; omega
    rw [e]; clear e
    subst h3
    go_enter Tryd.func38, Tryd.ntmps38
    go_wp2
    go_ret
    exact ⟨rfl, B0.out⟩
  have h3b : (m != -9223372036854775808) = true := by simpa using h3
  by_cases h4 : s = 0
  · have e : goodD m s = true := (goodD_iff m s).2 ⟨by omega, by omega, h3, Or.inl h4⟩
    rw [e]; clear e
    subst h4
    go_enter Tryd.func38, Tryd.ntmps38
    go_wp2
    go_ret
    exact ⟨rfl, B0.out⟩
  have h4b : (s == 0) = false := by simpa using h4
  by_cases h5 : m.tmod 10 = 0
  · have e : goodD m s = false := by unfold goodD; simp; omega
    rw [e]; clear e
    go_enter Tryd.func38, Tryd.ntmps38
    go_wp2
    go_ret
    exact ⟨rfl, B0.out⟩
  · have e : goodD m s = true := (goodD_iff m s).2 ⟨by omega, by omega, h3, Or.inr h5⟩
    rw [e]; clear e
    have h5b : (m.tmod 10 != 0) = true := by simpa using h5
    go_enter Tryd.func38, Tryd.ntmps38
    go_wp2
    go_ret
    exact ⟨rfl, B0.out⟩

theorem DR.drew {w : World} {v : Value} {l : List Nat} (h : DR w v l) : DR w.drew v l := h
theorem rdec_norm (o : Option (Int × Nat)) : rdecV o = normV o := by cases o <;> rfl

end Go.Proofs.YtmbpldnclnahmaaDoor
