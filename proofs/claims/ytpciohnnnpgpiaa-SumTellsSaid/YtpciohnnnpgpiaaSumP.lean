/- A []api.Dec that came in; uint(s) % 20. -/
import Derived.Test.YtpciohnnnpgpiaaSumY
import Derived.Test.YtpciohnnnpgpiaaFrame
import Derived.Deep.Slices
import Derived.Deep.Fields
set_option linter.unusedVariables false
set_option linter.unusedSimpArgs false
namespace Go.Proofs.Ytpciohnnnpgpiaa
open Go.RowKit Go.ChangeShapes Go.WideShapes Go.Deep Dc

theorem i64_b {x : Int} (h : (Lit.int .i64 x).wf = true) : inI x := by simpa [inI, Lit.wf, IntKind.min, IntKind.max, IntKind.signed, IntKind.bits] using h
theorem trod_dec {H : Type} {enc : TypeId × Value → H} {W : World} {base : Nat} {sp : Nat → Bool} {held : Bool} {fuel : Nat} {cs : List Value} {x : DataW H × List MemPlace}
    (h : DataW.trod enc Try.prog W base sp held fuel 25 cs = some x) : ∃ p : Int × Int, cs = [.int .i64 p.1, .int .i64 p.2] ∧ inI p.1 := by
  obtain ⟨xs, n, rfl, _, hlen, hxs, hf⟩ := DataW.trod_struct Try.underlying25 h
  have hc : Try.prog.cellsOf 25 = 2 := by kernel_rfl
  rw [hc] at hlen
  match cs, hlen with
  | [u0, u1], _ =>
    have hs : xs.length = 2 := by rw [hxs]; rfl
    match xs, hs with
    | [x0, x1], _ =>
      have h0 := hf 0 _ rfl
      have h1 := hf 1 _ rfl
      have c0 : Try.prog.cellsOf 2 = 1 := by kernel_rfl
      have c1 : Try.prog.cellsOf 3 = 1 := by kernel_rfl
      simp only [List.getElem_toArray, List.getElem_cons_zero, List.getElem_cons_succ, c0, c1] at h0 h1
      obtain ⟨a, e0, _, wa⟩ := DataW.trod_int Try.underlying2 h0
      obtain ⟨b, e1, _, _⟩ := DataW.trod_int Try.underlying3 h1
      have f0 : u0 = .int .i64 a := by simpa using e0
      have f1 : u1 = .int .i64 b := by simpa using e1
      exact ⟨(a, b), by rw [f0, f1], i64_b wa⟩
theorem dcRow_of {H : Type} {enc : TypeId × Value → H} {W : World} {base : Nat} {sp : Nat → Bool} {held : Bool} {v : Value} {d : DataW H} {p : List MemPlace}
    (hv : Value.okWide Try.prog W .any 0 22 v) (h : DataW.Trod enc Try.prog W base sp held 22 v d p) : ∃ l, DcRow W v l ∧ ∀ p ∈ l, inI p.1 := by
  obtain ⟨a, len, cap, rfl⟩ := okWide_slice Try.underlying22 hv
  obtain ⟨fuel, hf⟩ := h
  rcases open_slice Try.underlying22 hf with ⟨hcs, _⟩ | ⟨a', len', cap', m, k, D, Pl, hcs, hb, hl, hm, hmm, _, hi⟩
  · simp [Value.cells] at hcs
    obtain ⟨rfl, rfl, rfl⟩ := hcs
    exact ⟨[], ⟨none, 0, rfl, Nat.le_refl _, by unfold maxLen; omega, fun h => absurd h (by simp)⟩, fun p hp => by cases hp⟩
  · simp [Value.cells] at hcs
    obtain ⟨rfl, rfl, rfl⟩ := hcs
    have hlen : len ≤ m := by rw [hmm]; split <;> omega
    have hC : Try.prog.cellsOf 25 = 2 := by kernel_rfl
    have hall : ∀ i, ∃ q : Int × Int, i < len → inI q.1 ∧ W.cell? (a'.add (i * 2 + 0)) = some (.int .i64 q.1) ∧ W.cell? (a'.add (i * 2 + 1)) = some (.int .i64 q.2) := fun i => by
      by_cases hil : i < len
      · obtain ⟨cs', hc, ht⟩ := hi i (by omega)
        obtain ⟨q, rfl, hq⟩ := trod_dec ht
        rw [hC] at hc
        obtain ⟨_, _, hat⟩ := World.cells?_some hc
        refine ⟨q, fun _ => ⟨hq, ?_, ?_⟩⟩
        · rw [← Go.Deep.add_add, hat 0 (by omega)]; rfl
        · rw [← Go.Deep.add_add, hat 1 (by omega)]; rfl
      · exact ⟨(0, 0), fun h => absurd h hil⟩
    obtain ⟨qs, hqs⟩ := Classical.axiomOfChoice hall
    have hll : ((List.range len).map qs).length = len := by simp
    refine ⟨(List.range len).map qs, ⟨some a', cap, by rw [hll], by rw [hll]; exact hl, hm, fun h0 => ?_⟩, fun p hp => ?_⟩
    · rw [hll] at h0
      have h00 := (hqs 0 h0).2.1
      obtain ⟨b, off, spot⟩ := a'
      have hspot : spot = none := by simpa [Addr.add] using World.cell?_spot h00
      subst hspot
      refine ⟨b, off, rfl, ?_, fun i q hq => ?_⟩
      · have := cell_lt h00
        simpa [Addr.add] using this
      · obtain ⟨hil, rfl⟩ : i < len ∧ qs i = q := by
          rw [List.getElem?_map] at hq
          by_cases hi2 : i < len
          · rw [List.getElem?_range hi2] at hq
            exact ⟨hi2, by simpa using hq⟩
          · rw [List.getElem?_eq_none (by simp; omega)] at hq
            cases hq
        have g := hqs i hil
        exact ⟨by rw [← g.2.1, Go.WideShapes.add_plain, Nat.add_zero], by rw [← g.2.2, Go.WideShapes.add_plain, Nat.add_assoc]⟩
    · obtain ⟨i, hi2, rfl⟩ := List.mem_map.1 hp
      exact (hqs i (List.mem_range.1 hi2)).1
theorem u64_20 (n : Int) : ∃ Z : Nat, Z ≤ 19 ∧ wrap64 ((IntKind.u64.wrap n).tmod 20) = (Z : Int) := by
  have h0 : 0 ≤ IntKind.u64.wrap n := by
    simp [IntKind.wrap, IntKind.bits, IntKind.signed]
    try omega
  have h1 : (IntKind.u64.wrap n).tmod 20 = (IntKind.u64.wrap n) % 20 := Int.tmod_eq_emod_of_nonneg h0
  refine ⟨((IntKind.u64.wrap n) % 20).toNat, by omega, ?_⟩
  rw [h1]
  have h2 : wrap64 (IntKind.u64.wrap n % 20) = IntKind.u64.wrap n % 20 := by
    first | exact IntWalk.i64_in _ (by omega) | (unfold wrap64; omega)
  rw [h2]; omega

end Go.Proofs.Ytpciohnnnpgpiaa
