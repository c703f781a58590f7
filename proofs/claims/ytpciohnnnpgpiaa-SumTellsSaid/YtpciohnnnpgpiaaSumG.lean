/- The walks of package sum's differ, level, orZero, decimal. -/
import Derived.Test.YtpciohnnnpgpiaaSumF
set_option linter.unusedVariables false
set_option linter.unusedSimpArgs false
namespace Go.Proofs.Ytpciohnnnpgpiaa
open Go.RowKit Dc

/-- a decimal lies in block b, where it may be written -/
structure DecAt (w : World) (b : Nat) (m s : Int) : Prop where
  c0 : w.cell? ⟨b, 0, none⟩ = some (.int .i64 m)
  c1 : w.cell? ⟨b, 1, none⟩ = some (.int .i64 s)
  f0 : w.frozen? ⟨b, 0, none⟩ = false
  f1 : w.frozen? ⟨b, 1, none⟩ = false
  lt : b < w.heap.size
theorem DecAt.below {w w' : World} {b : Nat} {m s : Int} (h : DecAt w b m s) (hb : Below w.heap.size w w') : DecAt w' b m s :=
  ⟨(hb.cell (p := ⟨b, 0, none⟩) h.lt).trans h.c0, (hb.cell (p := ⟨b, 1, none⟩) h.lt).trans h.c1, (hb.frozen (p := ⟨b, 0, none⟩) h.lt).trans h.f0, (hb.frozen (p := ⟨b, 1, none⟩) h.lt).trans h.f1, Nat.lt_of_lt_of_le h.lt hb.size⟩
theorem DecAt.new (w : World) (m s : Int) : DecAt (w.alloc (.cells #[.int .i64 m, .int .i64 s] 25)) w.heap.size m s :=
  ⟨by simp [go_sem], by simp [go_sem], by simp [go_sem], by simp [go_sem], by simp⟩
theorem DecAt.alloc {w : World} {b : Nat} {m s : Int} (h : DecAt w b m s) (o : Obj) : DecAt (w.alloc o) b m s := h.below ((Below.refl _ _).alloc (Nat.le_refl _) o)
theorem DecAt.drew {w : World} {b : Nat} {m s : Int} (h : DecAt w b m s) : DecAt w.drew b m s := ⟨h.c0, h.c1, h.f0, h.f1, h.lt⟩
theorem DecAt.row {w : World} {b g : Nat} {m s : Int} (h : DecAt w b m s) (c : Array Value) (hne : b ≠ g) : DecAt (w.setRow g c) b m s := by
  have e : (w.setRow g c).heap[b]? = w.heap[b]? := setRow_other w g b c (by omega)
  have hc : ∀ i, (w.setRow g c).cell? ⟨b, i, none⟩ = w.cell? ⟨b, i, none⟩ := fun i => by unfold World.cell?; rw [e]
  have hf : ∀ i, (w.setRow g c).frozen? ⟨b, i, none⟩ = w.frozen? ⟨b, i, none⟩ := fun i => by unfold World.frozen?; rw [e]
  exact ⟨(hc 0).trans h.c0, (hc 1).trans h.c1, (hf 0).trans h.f0, (hf 1).trans h.f1, by show b < (Array.modify _ _ _).size; rw [Array.size_modify]; exact h.lt⟩

set_option maxHeartbeats 1000000 in
theorem differ_calls (m s n t : Int) (w : World) :
    Calls Try.prog 29 #[dv2 m s, dv2 n t] w fun e w' => e = .returned (.bool (decide (m < 0) != decide (n < 0))) ∧ Below w.heap.size w w' := by
  have b1 := (Below.refl w.heap.size w).alloc (Nat.le_refl _) (.cells #[.int .i64 m, .int .i64 s] 25)
  have b2 := Lib.hid (kb_alloc b1 (Nat.le_refl _) (.cells #[.int .i64 n, .int .i64 t] 25))
  clear b1
  by_cases h1 : m < 0
  · by_cases h2 : n < 0
    · have e : (decide (m < 0) != decide (n < 0)) = false := by simp [h1, h2]
      rw [e]; clear e
      go_enter Try.func29, Try.ntmps29
      go_wp2
      go_ret
      exact ⟨rfl, b2.out⟩
    · have e : (decide (m < 0) != decide (n < 0)) = true := by simp [h1, h2]
      rw [e]; clear e
      go_enter Try.func29, Try.ntmps29
      go_wp2
      go_ret
      exact ⟨rfl, b2.out⟩
  · by_cases h2 : n < 0
    · have e : (decide (m < 0) != decide (n < 0)) = true := by simp [h1, h2]
      rw [e]; clear e
      go_enter Try.func29, Try.ntmps29
      go_wp2
      go_ret
      exact ⟨rfl, b2.out⟩
    · have e : (decide (m < 0) != decide (n < 0)) = false := by simp [h1, h2]
      rw [e]; clear e
      go_enter Try.func29, Try.ntmps29
      go_wp2
      go_ret
      exact ⟨rfl, b2.out⟩

set_option maxRecDepth 100000 in
set_option maxHeartbeats 2000000 in
theorem level_calls (m s : Int) (w : World) (hm : m.natAbs ≤ big) (hs0 : 0 ≤ s) (hs1 : s ≤ 18) :
    Calls Try.prog 42 #[dv2 m s] w fun e w' => e = .returned (.agg (sA (dgt (lev m s)))) ∧ Below w.heap.size w w' := by
  have b1 := (Below.refl w.heap.size w).alloc (Nat.le_refl _) (.cells #[.int .i64 m, .int .i64 s] 25)
  have b2 := Lib.hid (kb_alloc b1 (Nat.le_refl _) (.cells (sA (fun _ => 0)) 43))
  have d2 := Lib.hid (SAt.new (w.alloc (.cells #[.int .i64 m, .int .i64 s] 25)) (fun _ => 0))
  rw [show (w.alloc (.cells #[.int .i64 m, .int .i64 s] 25)).heap.size = w.heap.size + 1 by simp] at d2
  have hsp := Lib.hid (fun W => spread_calls m (18 - s).toNat W hm (by omega))
  rw [show (((18 - s).toNat : Nat) : Int) = 18 - s by omega, show m.natAbs * 10 ^ (18 - s).toNat = lev m s from rfl] at hsp
  obtain ⟨x, hx⟩ : ∃ x, x = lev m s := ⟨_, rfl⟩
  rw [← hx] at hsp ⊢
  clear b1 hx
  go_enter Try.func42, Try.ntmps42
  go_wp2_with fail
  rw [zeros_sA]
  refine (hsp.out _).mono ?_; rintro e w1 ⟨rfl, c1⟩
  have D2 := d2.out.keep c1
  have B2 := Lib.hid (b2.out.trans (c1.mono b2.out.size))
  clear c1 b2 d2 hsp
  go_wp2_with (first
    | (refine wpList_store_row rfl 43 _ _ rfl (w.heap.size + 1) _ rfl rfl 43 _ D2.heap (by rw [sA_size]; exact sum_info) (by rw [sA_size, sA_size]) (sA_one _) ?_))
  have hv := (D2.row (dgt x)).value
  refine bodyPost_ret (v := .agg (sA (dgt x))) (by simp [results, Try.results42, Act.put, asAddr, hv, Result.andThen]) rfl ⟨rfl, below_setRow B2.out (by omega) _⟩

set_option maxHeartbeats 2000000 in
theorem orZero_calls (m s : Int) (w : World) :
    Calls Try.prog 41 #[dv2 m s] w fun e w' => e = .returned (dv2 (orZ m s).1 (orZ m s).2) ∧ Below w.heap.size w w' := by
  have b1 := (Below.refl w.heap.size w).alloc (Nat.le_refl _) (.cells #[.int .i64 m, .int .i64 s] 25)
  have b2 := Lib.hid (kb_alloc b1 (Nat.le_refl _) (.cells #[.int .i64 0, .int .i64 0] 25))
  have d1 := Lib.hid ((DecAt.new w m s).alloc (.cells #[.int .i64 0, .int .i64 0] 25))
  have d2 := Lib.hid (DecAt.new (w.alloc (.cells #[.int .i64 m, .int .i64 s] 25)) 0 0)
  rw [show (w.alloc (.cells #[.int .i64 m, .int .i64 s] 25)).heap.size = w.heap.size + 1 by simp] at d2
  clear b1
  go_enter Try.func41, Try.ntmps41
  go_wp2_with fail
  refine (good_calls _ _ _).mono ?_; rintro e w1 ⟨rfl, c1⟩
  have D1 := d1.out.below c1
  have D2 := d2.out.below c1
  have B2 := Lib.hid (b2.out.trans (c1.mono b2.out.size))
  obtain ⟨p0, p1, p2, p3, p4⟩ := D1
  obtain ⟨q0, q1, q2, q3, q4⟩ := D2
  clear c1 b2 d1 d2
  cases hg : goodD m s with
  | false =>
    have hz := Lib.hid (orZ_bad hg)
    clear hg
    go_wp2
    refine bodyPost_ret (v := dv2 0 0) (by simp [results, Try.results41, go_sem, q0, q1, q2, q3]) rfl ⟨by rw [hz.out], ?_⟩
    repeat (refine Below.setCell ?_ (by simp) _)
    exact B2.out
  | true =>
    have hz := Lib.hid (orZ_good hg)
    clear hg
    go_wp2
    refine bodyPost_ret (v := dv2 m s) (by simp [results, Try.results41, go_sem, q0, q1, q2, q3]) rfl ⟨by rw [hz.out], ?_⟩
    repeat (refine Below.setCell ?_ (by simp) _)
    exact B2.out

end Go.Proofs.Ytpciohnnnpgpiaa
