/- The walk of Scan's Run (layer 17, the reference). -/
import Derived.Test.YthniemoganoapaaDoorRefOwB
import Derived.Laws.DeepStrings4
import Derived.Deep.QuietTactic
import Derived.Deep.LoopGhost
set_option maxRecDepth 100000
set_option linter.unusedVariables false
set_option linter.unusedSimpArgs false
namespace Go.Proofs.YthniemoganoapaaDoor
open Go.RowKit
attribute [local go_sem ↓] Go.wp_at_zero Go.wp_at_succ

theorem cut_mid (l : List UInt8) (i j : Nat) (h : i ≤ j) (h2 : j ≤ l.length) (W : World) : (Instr.slice 9 (.string (str l)) (some (.int .i64 (i : Nat))) (some (.int .i64 (j : Nat))) none).run Tryd.prog W = .ok (.string (str ((l.drop i).take (j - i)))) W := by
  rw [run_slice_string_if W _ _ _ _ _ _ Tryd.underlying9, if_pos ⟨by omega, by rw [str_size]; omega⟩, if_pos ⟨by omega, by omega⟩]
  congr 2
  refine str_ext ?_
  rw [ext_list]
  simp [List.drop_take]
namespace Ow
/-- so far: all stand, and a first byte was none that may not be it -/
structure RunAt (K : Int) (but : List UInt8) (first : Bool) (l : List UInt8) (n : Nat) : Prop where
  le : n ≤ l.length
  all : ∀ y ∈ l.take n, stay K but y = true
  one : 0 < n → (first && num1 l) = false
theorem RunAt.zero (K : Int) (but : List UInt8) (first : Bool) (l : List UInt8) : RunAt K but first l 0 := ⟨Nat.zero_le _, by simp, fun h => absurd h (by omega)⟩
theorem RunAt.next {K : Int} {but : List UInt8} {first : Bool} {l : List UInt8} {n : Nat} {c : UInt8} (h : RunAt K but first l n) (hc : l[n]? = some c) (hs : stay K but c = true) (h1 : n = 0 → (first && digit c) = false) : RunAt K but first l (n + 1) := by
  obtain ⟨hi, rfl⟩ := List.getElem?_eq_some_iff.1 hc
  refine ⟨hi, fun y hy => ?_, fun _ => ?_⟩
  · rw [List.take_succ_eq_append_getElem hi, List.mem_append, List.mem_singleton] at hy
    rcases hy with hy | rfl
    · exact h.all y hy
    · exact hs
  · by_cases e : n = 0
    · subst e
      have := h1 rfl
      cases l with
      | nil => cases hc
      | cons d l => exact this
    · exact h.one (by omega)
theorem take_while {p : UInt8 → Bool} : ∀ (l : List UInt8) (n : Nat), n ≤ l.length → (∀ y ∈ l.take n, p y = true) → (∀ c, l[n]? = some c → p c = false) → l.takeWhile p = l.take n ∧ l.dropWhile p = l.drop n
  | l, 0, _, _, h => by
    cases l with
    | nil => exact ⟨rfl, rfl⟩
    | cons c l =>
      have := h c rfl
      exact ⟨List.takeWhile_cons_of_neg (by rw [this]; decide), List.dropWhile_cons_of_neg (by rw [this]; decide)⟩
  | [], n + 1, hn, _, _ => by simp at hn
  | c :: l, n + 1, hn, ha, h => by
    have hc := ha c (by simp)
    obtain ⟨h1, h2⟩ := take_while l n (by simpa using hn) (fun y hy => ha y (by simp [hy])) (fun d hd => h d (by simpa using hd))
    rw [List.takeWhile_cons_of_pos hc, List.dropWhile_cons_of_pos hc, h1, h2]
    exact ⟨rfl, rfl⟩
/-- it stops: at the end, at a byte that may not stand, or at the first one -/
theorem RunAt.stop {K : Int} {but : List UInt8} {first : Bool} {l : List UInt8} {n : Nat} (h : RunAt K but first l n) (hx : (∀ c, l[n]? = some c → stay K but c = false) ∨ (n = 0 ∧ (first && num1 l) = true)) :
    run K but first l = if n = 0 then .fell l else .ok (l.take n) (l.drop n) := by
  unfold run
  rcases hx with hx | ⟨h0, hx⟩
  · obtain ⟨h1, h2⟩ := take_while l n h.le h.all hx
    rw [h1, h2]
    by_cases e : n = 0
    · subst e
      rw [if_pos rfl, if_pos (by simp)]
    · rw [if_neg e, if_neg]
      rw [h.one (by omega)]
      cases l with
      | nil => have := h.le; simp at this; omega
      | cons c l =>
        obtain ⟨m, rfl⟩ : ∃ m, n = m + 1 := ⟨n - 1, by omega⟩
        simp
  · rw [if_pos h0, hx, Bool.true_or, if_pos rfl]
theorem RunAt.fell {K : Int} {but : List UInt8} {first : Bool} {s : List UInt8} {j n : Nat} {P : Out (List UInt8)} (h : RunAt K but first (s.drop j) n) (hP : P = run K but first (s.drop j)) (hx : (∀ c, s[j + n]? = some c → stay K but c = false) ∨ (n = 0 ∧ (first && num1 (s.drop j)) = true)) :
    P = if n = 0 then .fell (s.drop j) else .ok ((s.drop j).take n) (s.drop (j + n)) := by
  rw [hP, h.stop (hx.imp (fun h c hc => h c (by rw [List.getElem?_drop] at hc; exact hc)) id), List.drop_drop]
end Ow

end Go.Proofs.YthniemoganoapaaDoor
